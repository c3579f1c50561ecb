import PyProof.Rows.All
import Wide.All
import OpenK.AllK
import PySem.Challenge.RW_hangstill_k40_whole_again_and_kept
set_option Elab.async false
set_option linter.all false
set_option maxRecDepth 100000
set_option maxHeartbeats 4000000
noncomputable section
theorem ω{p:Prop}(h:p:=by omega):p:=h
theorem δ{p:Prop}(h:p:=by decide):p:=h
theorem η{p:Prop}(h:p:=by decide+kernel):p:=h
theorem θ{p:Prop}(h:p:=by simp):p:=h
open PySem.Heap (DictOf ExtBut SameBut get?_push_ne)
open Option (getD_none getD_some isSome_map map_eq_some_iff map_some)
open PySem.W (Frag codeIn excIn findIn fnOf hideAll hideAll_get instObj keepIn kitOne kitx_dict kitx_list kitx_tuple lookIn methodObj mg_of nsIn of_hideAll plainGet)
open Nat (le_succ lt_trans pow_pos pow_succ succ_pos zero_add)
open List (Nodup Pairwise Perm all_eq_true any_map find?_append find?_some forIn_cons forIn_nil length_range length_set map_id map_nil mem_range not_lt of_mem_zip range range_succ replicate set_set take_length take_succ)
open Array (toList)
open Int (add_comm dvd_trans le_of_dvd mul_nonneg one_mul pow_nonneg)
open PySem.F (args_tuple_add_2 called_tuple entry_tuple_add slot_dict_update slot_tuple_add)
open PySem.PyData (canLay0 canLayAll0 depthAll eqvAll strOk)
abbrev Ci:= @_root_.PyProof.Rows.callWith_builtin1
abbrev ng:= @_root_.PyProof.Rows.callWith_type1
abbrev Cm:= @_root_.PyProof.Rows.slot_tuple_getitem
abbrev jC:= @_root_.PySem.F.slot_list_append
abbrev Cv:= @_root_.PySem.F.slot_list_getattribute
abbrev Cz:= @_root_.PySem.F.slot_tuple_getattribute
abbrev jE:= @_root_.PySem.F.type_list_append
abbrev jF:= @_root_.PySem.Around.under_plainId
abbrev eT:= @_root_.Array.getElem?_eq_getElem
abbrev uz:= @_root_.Array.getElem?_eq_none
abbrev ya:= @_root_.Array.getElem?_eq_some_iff
abbrev kQ:= @_root_.Bool.eq_iff_iff
abbrev bU:= @_root_.Bool.false_ne_true
abbrev ye:= @_root_.PySem.Calls.call_function_entry
abbrev yf:= @_root_.PySem.Calls.spliced_cons
abbrev yg:= @_root_.PySem.Calls.spliced_nil
abbrev Cj:= @_root_.PyProof.Rows.F.plain_set_update_loop
abbrev yh:= @_root_.PySem.F.slot_zip_next
abbrev Ck:= @_root_.Int.le_ediv_iff_mul_le
abbrev dR:= @_root_.Int.le_of_lt
abbrev eB:= @_root_.Int.le_trans
abbrev yx:= @_root_.Int.lt_of_lt_of_le
abbrev qJ:= @_root_.Int.mul_le_mul_of_nonneg_left
abbrev Co:= @_root_.Int.mul_le_mul_of_nonneg_right
abbrev kW:= @_root_.Int.ne_of_gt
abbrev jB:= @_root_.Int.pow_succ
abbrev uq:= @_root_.PyProof.Rows.KeyOrd.kle_of_klt
abbrev oV:= @_root_.PyProof.Rows.KeyOrd.kle_refl
abbrev yz:= @_root_.PyProof.Rows.KeyOrd.kle_trans
abbrev Cp:= @_root_.List.filterMap_cons
abbrev yC:= @_root_.List.filter_cons_of_neg
abbrev yD:= @_root_.List.filter_cons_of_pos
abbrev Cq:= @_root_.List.getElem?_cons_succ
abbrev bY:= @_root_.List.getElem?_eq_some_iff
abbrev Cr:= @_root_.List.getElem?_zipIdx
abbrev Cu:= @_root_.List.length_filter_le
abbrev j5:= @_root_.List.lt_irrefl
abbrev ur:= @_root_.List.lt_trans
abbrev uu:= @_root_.List.mem_zipIdx_iff_getElem?
abbrev lV:= @_root_.PySem.Obj.data_mapFields
abbrev Cy:= @_root_.PySem.Obj.isFreed_of_fields
abbrev jg:= @_root_.PySem.boot_len
abbrev oW:= @_root_.PySem.mem_of_lookup
abbrev lW:= @_root_.Rat.div_def
abbrev yE:= @_root_.Rat.intCast_lt_intCast
abbrev j6:= @_root_.Rat.intCast_mul
abbrev uv:= @_root_.Rat.inv_pos
abbrev yF:= @_root_.Rat.mul_assoc
abbrev nv:= @_root_.Rat.mul_pos
abbrev oX:= @_root_.Rat.one_mul
abbrev kX:= @_root_.Bool.and_eq_true
abbrev oY:= @_root_.List.any_cons
abbrev jD:= @_root_.List.any_eq_true
abbrev lX:= @_root_.List.append_nil
abbrev yG:= @_root_.PyProof.Rows.args_list_sort
abbrev ny:= @_root_.bne_self_eq_false
abbrev nA:= @_root_.PyProof.Rows.boot_dict
abbrev uw:= @_root_.PyProof.Rows.boot_sorted
abbrev j7:= @_root_.PyProof.Rows.boot_tuple
abbrev oZ:= @_root_.PySem.builtinLookup_eq_fast
abbrev gW:= @_root_.PySem.F.called_set
abbrev iL:= @_root_.PySem.codeAny_builtin
abbrev nB:= @_root_.PySem.codeAny_mono
abbrev yH:= @_root_.PySem.codeAny_of_tree
abbrev cj:= @_root_.congrArg
abbrev gu:= @_root_.decide_eq_false
abbrev eL:= @_root_.decide_eq_true
abbrev nC:= @_root_.decide_eq_true_eq
abbrev lY:= @_root_.List.drop_eq_getElem_cons
abbrev qK:= @_root_.List.drop_eq_nil_of_le
abbrev j8:= @_root_.Int.ediv_le_self
abbrev qL:= @_root_.Int.emod_lt_of_pos
abbrev qM:= @_root_.Int.emod_nonneg
abbrev yI:= @_root_.PyProof.Rows.entry_list_sort
abbrev qN:= @_root_.List.ext_getElem?
abbrev jG:= @_root_.Bool.false_eq_true
abbrev j9:= @_root_.List.find?_cons
abbrev o4:= @_root_.List.find?_eq_none
abbrev yJ:= @_root_.PySem.fits_of_scanBound
abbrev qO:= @_root_.List.flatMap_append
abbrev qP:= @_root_.List.flatMap_cons
abbrev nD:= @_root_.List.foldl_append
abbrev gX:= @_root_.List.foldl_cons
abbrev ux:= @_root_.Int.gcd_dvd_left
abbrev uy:= @_root_.Int.gcd_dvd_right
abbrev bu:= @_root_.PySem.Heap.get?_push_of_some
abbrev cu:= @_root_.PySem.Heap.get?_push_size
abbrev o5:= @_root_.PySem.Heap.get?_update_other
abbrev j_:= @_root_.PySem.Heap.get?_update_self
abbrev iM:= @_root_.Array.getD_eq_getD_getElem?
abbrev fT:= @_root_.List.getD_eq_getElem?_getD
abbrev iu:= @_root_.List.getElem?_append_left
abbrev qQ:= @_root_.List.getElem?_append_right
abbrev a_:= @_root_.List.getElem?_eq_getElem
abbrev o6:= @_root_.List.getElem?_eq_none
abbrev ck:= @_root_.List.getElem?_map
abbrev eE:= @_root_.List.getElem?_set_ne
abbrev eF:= @_root_.List.getElem?_set_self
abbrev qR:= @_root_.Array.getElem?_toList
abbrev kY:= @_root_.List.getElem_mem
abbrev jc:= @_root_.List.getElem_of_mem
abbrev gk:= @_root_.if_false
abbrev ao:= @_root_.if_neg
abbrev aA:= @_root_.if_pos
abbrev lR:= @_root_.if_true
abbrev qq:= @_root_.Option.isSome_iff_exists
abbrev jd:= @_root_.PySem.W.kia_one
abbrev qt:= @_root_.Nat.le_add_right
abbrev tW:= @_root_.Nat.le_max_left
abbrev tX:= @_root_.Nat.le_max_right
abbrev ir:= @_root_.Nat.le_of_lt
abbrev aF:= @_root_.Nat.le_refl
abbrev cC:= @_root_.Nat.le_trans
abbrev cM:= @_root_.List.length_append
abbrev gm:= @_root_.List.length_cons
abbrev qu:= @_root_.List.length_drop
abbrev tY:= @_root_.List.length_erase_of_mem
abbrev aK:= @_root_.List.length_map
abbrev oJ:= @_root_.List.length_nil
abbrev yb:= @_root_.List.length_pos_iff
abbrev qv:= @_root_.List.length_pos_of_mem
abbrev yc:= @_root_.List.length_singleton
abbrev kR:= @_root_.List.length_take
abbrev gn:= @_root_.Array.length_toList
abbrev yd:= @_root_.List.length_zipIdx
abbrev iJ:= @_root_.List.lookup_cons
abbrev gp:= @_root_.Nat.lt_irrefl
abbrev qw:= @_root_.Int.lt_of_le_of_lt
abbrev cO:= @_root_.Nat.lt_of_lt_of_le
abbrev aR:= @_root_.PySem.Heap.lt_size
abbrev gq:= @_root_.Nat.lt_succ_of_lt
abbrev lS:= @_root_.Nat.lt_succ_self
abbrev dP:= @_root_.List.map_append
abbrev tZ:= @_root_.List.map_congr_left
abbrev cK:= @_root_.List.map_cons
abbrev bK:= @_root_.List.map_map
abbrev bX:= @_root_.List.mem_append
abbrev oK:= @_root_.List.mem_append_left
abbrev je:= @_root_.List.mem_append_right
abbrev aY:= @_root_.List.mem_cons
abbrev bq:= @_root_.List.mem_cons_of_mem
abbrev aT:= @_root_.List.mem_cons_self
abbrev t_:= @_root_.List.mem_erase_of_ne
abbrev nh:= @_root_.List.mem_filter
abbrev qx:= @_root_.List.mem_filterMap
abbrev gz:= @_root_.List.mem_flatMap
abbrev aM:= @_root_.List.mem_map
abbrev cX:= @_root_.List.mem_map_of_mem
abbrev ni:= @_root_.List.mem_of_find?_eq_some
abbrev cS:= @_root_.List.mem_of_getElem?
abbrev qy:= @_root_.List.mem_of_mem_take
abbrev bI:= @_root_.List.mem_singleton
abbrev qz:= @_root_.Int.mul_assoc
abbrev nj:= @_root_.Int.mul_comm
abbrev dQ:= @_root_.Int.mul_le_mul
abbrev f_:= @_root_.Int.mul_pos
abbrev qA:= @_root_.Int.natCast_pow
abbrev kT:= @_root_.Nat.ne_of_gt
abbrev bB:= @_root_.Nat.ne_of_lt
abbrev fC:= @_root_.List.nil_append
abbrev oM:= @_root_.List.nodup_append
abbrev iK:= @_root_.List.nodup_cons
abbrev oO:= @_root_.List.nodup_nil
abbrev ua:= @_root_.Nat.not_lt_zero
abbrev fP:= @_root_.List.not_mem_nil
abbrev gD:= @_root_.of_decide_eq_true
abbrev fQ:= @_root_.or_false
abbrev gU:= @_root_.List.pairwise_cons
abbrev uc:= @_root_.List.pairwise_iff_getElem
abbrev jA:= @_root_.List.pairwise_map
abbrev gV:= @_root_.PySem.F.plainAttrs_list
abbrev jX:= @_root_.PySem.plainId_quiet
abbrev ud:= @_root_.PySem.F.plain_extend_loop
abbrev yi:= @_root_.PySem.F.plain_list_iadd
abbrev fj:= @_root_.Nat.pow_le_pow_right
abbrev yj:= @_root_.List.set_append_left
abbrev lT:= @_root_.PySem.sizeLine_eq
abbrev ue:= @_root_.Array.size_append
abbrev fR:= @_root_.PySem.Heap.size_push
abbrev qB:= @_root_.PyProof.Rows.size_push'
abbrev cg:= @_root_.List.size_toArray
abbrev qC:= @_root_.PySem.Heap.size_update
abbrev yk:= @_root_.PySem.F.slot_list_extend
abbrev yl:= @_root_.PyProof.Rows.slot_list_sort
abbrev ym:= @_root_.PyProof.Rows.sortedHeap_at
abbrev yo:= @_root_.PyProof.Rows.sortedHeap_old
abbrev qD:= @_root_.List.take_of_length_le
abbrev yp:= @_root_.Array.toArray_toList
abbrev qE:= @_root_.Int.toNat_natCast
abbrev yq:= @_root_.PySem.tupleKind_room_in1
abbrev oQ:= @_root_.PySem.typeLookup_type
abbrev yr:= @_root_.PySem.F.type_list_extend
abbrev lU:= @_root_.PySem.wpAny_Call_Name_kw
abbrev qF:= @_root_.PySem.wpAny_attempt
abbrev ah:= @_root_.PySem.wpAny_bind
abbrev oR:= @_root_.PySem.wpAny_callSpecial?_slot
abbrev jf:= @_root_.PySem.wpAny_call_entry
abbrev yt:= @_root_.PySem.wpAny_execs_nil
abbrev jY:= @_root_.PySem.wpAny_field
abbrev yu:= @_root_.PySem.wpAny_fieldsOf
abbrev fS:= @_root_.PySem.wpAny_holding
abbrev yv:= @_root_.PySem.wpAny_isInstance
abbrev yw:= @_root_.PySem.wpAny_loadPart'
abbrev kU:= @_root_.PySem.wpAny_mono
abbrev uf:= @_root_.PySem.wpAny_newList
abbrev gE:= @_root_.PySem.wpAny_newObj_type
abbrev Cn:= @_root_.PySem.wpAny_nextOf_list_item
abbrev oU:= @_root_.PySem.wpAny_passesOwn
abbrev aD:= @_root_.PySem.wpAny_pure
abbrev qG:= @_root_.PySem.wpAny_pyIter_list
abbrev jZ:= @_root_.PySem.wpAny_rule
abbrev yy:= @_root_.PySem.wpAny_runValue
abbrev ug:= @_root_.PySem.wpAny_seqItems
abbrev uh:= @_root_.PySem.wpAny_setEntries_of
abbrev qH:= @_root_.PySem.wpAny_setField
abbrev qI:= @_root_.PySem.wpAny_setState_of
abbrev um:= @_root_.PySem.wpAny_standAt
abbrev nk:= @_root_.PySem.wpAny_truthy_bool
abbrev nu:= @_root_.PySem.wpAny_typeOf
abbrev uo:= @_root_.PySem.wpAny_updateSeq
abbrev bQ:= @_root_.Nat.zero_le
section
open PySem
abbrev aB:=Str->Option Value
abbrev aU:=Value->Shared->Prop
abbrev aZ:=List (Addr×Obj)
end
section
open PySem PySem.Spec PyProof.Rows
namespace L2
abbrev Key:=Sum Int Str
noncomputable def lI:Key->Value->Bool
 |.inl k,v=>Value.isInt k v
 |.inr x,v=>Value.isStrOf x v
noncomputable def RC(w:World):Key->Int
 |.inl k=>hashInt k
 |.inr x=>hashStr w x
theorem ju:∀{k:Key} {v:Value},lI k v=true->(∃i t,k=Sum.inl i/\v=Value.int i t)\/(∃x t,k=Sum.inr x/\v=Value.str x t)
 |.inl i,v,h=>by
  obtain⟨t,e⟩:=Value.isInt_shape (k:=i) (v:=v) h;exact .inl ⟨i,t,rfl,e⟩
 |.inr x,v,h=>by
  obtain⟨t,e⟩:=Value.isStrOf_shape (x:=x) (v:=v) h;exact .inr ⟨x,t,rfl,e⟩
theorem RD(i:Int)(t:Tok):lI (.inl i) (.int i t)=true:=by simp[lI,Value.isInt]
theorem RG(x:Str)(t:Tok):lI (.inr x) (.str x t)=true:=by simp[lI,Value.isStrOf]
theorem RH(a b:Int):decide ((Sum.inl a:Key)=Sum.inl b)=(a==b):=by
 by_cases e:a=b
 .subst e;simp
 .have h:¬(Sum.inl a:Key)=Sum.inl b:=λq=>e (Sum.inl.inj q)
  rw[gu h];exact(beq_eq_false_iff_ne.mpr e).symm
theorem RO(a b:Str):decide ((Sum.inr a:Key)=Sum.inr b)=decide (a=b):=by
 by_cases e:a=b
 .subst e;simp
 .have h:¬(Sum.inr a:Key)=Sum.inr b:=λq=>e (Sum.inr.inj q)
  rw[gu h,gu e]
theorem RI(a:Int)(b:Str):decide ((Sum.inl a:Key)=Sum.inr b)=false:=gu (λq=>nomatch q)
theorem RN(a:Str)(b:Int):decide ((Sum.inr a:Key)=Sum.inl b)=false:=gu (λq=>nomatch q)
noncomputable def dg(prog:Program)(w:World):PySem.KeyKind prog w Key where
 is:=lI
 hash:=RC w
 inj:=λv a b ha hb=>by
  rcases ju ha with⟨i,t,rfl,rfl⟩|⟨x,t,rfl,rfl⟩
  .rcases ju hb with⟨j,u,rfl,e⟩|⟨y,u,rfl,e⟩
   .injection e with e1 _;rw[e1]
   .exact nomatch e
  .rcases ju hb with⟨j,u,rfl,e⟩|⟨y,u,rfl,e⟩
   .exact nomatch e
   .injection e with e1 _;rw[e1]
 byValue:=λk v h=>by
  rcases ju h with⟨i,t,rfl,rfl⟩|⟨x,t,rfl,rfl⟩<;>rfl
 pyHash:=λhv h=>by
  rcases ju hv with⟨i,t,rfl,rfl⟩|⟨x,t,rfl,rfl⟩
  .exact wpAny_pyHash_int h
  .exact wpAny_pyHash_str h
 eqBool:=λhu hv h=>by
  rcases ju hu with⟨i,t,rfl,rfl⟩|⟨x,t,rfl,rfl⟩
  .rcases ju hv with⟨j,u,rfl,rfl⟩|⟨y,u,rfl,rfl⟩
   .rw[RH] at h;exact wpAny_eqBool_int h
   .rw[RI] at h;exact SeqAt.EqAt.int_str i t y u _ _ _ _ h
  .rcases ju hv with⟨j,u,rfl,rfl⟩|⟨y,u,rfl,rfl⟩
   .rw[RN] at h;exact SeqAt.EqAt.str_int x t j u _ _ _ _ h
   .rw[RO] at h;exact wpAny_eqBool_str h
 «strs»:=λk x t v h=>by
  rcases ju h with⟨i,u,rfl,e⟩|⟨y,u,rfl,e⟩
  .exact nomatch e
  .injection e with e1 _
   subst e1
   cases v<;>rfl
theorem SN(prog:Program)(w:World)(i:Int)(t:Tok):(dg prog w).is (.inl i) (.int i t)=true:=RD i t
theorem SO(prog:Program)(w:World)(x:Str)(t:Tok):(dg prog w).is (.inr x) (.str x t)=true:=RG x t
inductive V where
 |aG|bl (b:Bool)|int (i:Int)|str (x:Str)|jN (b:Array UInt8)|pQ (b:UInt64)|ref (a:Addr)|ty (n:String)
 deriving DecidableEq
noncomputable def RelV:V->Value->Prop
 |.aG,u=>u=Value.none
 |.bl b,u=>u=Value.bool b
 |.int i,u=>∃t,u=Value.int i t
 |.str x,u=>∃t,u=Value.str x t
 |.jN b,u=>∃t,u=Value.bytes b t
 |.pQ b,u=>∃t,u=Value.float b t
 |.ref a,u=>u=Value.ref a
 |.ty n,u=>u=Value.type n
abbrev Vals:List V->List Value->Prop:=Paired RelV
theorem Vals.length{xs:List V}{a:List Value}(r:Vals xs a):xs.length=a.length:=Paired.length r
theorem Vals.get:∀{xs:List V} {a:List Value} {i:Nat} {x:V},Vals xs a->xs[i]?=some x->∃u,a[i]?=some u/\RelV x u
 |_,_,_,_,.nil,e=>by simp at e
 |_,_,0,_,.cons r _,e=>by simp at e;subst e;exact⟨_,rfl,r⟩
 |_,_,i+1,x,.cons _ t,e=>by
  obtain⟨u,h1,h2⟩:=Vals.get (i:=i) (x:=x) t (by simpa using e);exact⟨u,by simpa using h1,h2⟩
theorem Vals.set{x:V}{u:Value}(r:RelV x u):∀{xs:List V} {a:List Value} (i:Nat),Vals xs a->Vals (xs.set i x) (a.set i u)
 |_,_,_,.nil=>.nil
 |_,_,0,.cons _ t=>.cons r t
 |_,_,i+1,.cons q t=>.cons q (Vals.set r i t)
theorem Vals.append:∀{xs ys:List V} {a ws:List Value},Vals xs a->Vals ys ws->Vals (xs++ys) (a++ws)
 |_,_,_,_,.nil,s=>s
 |_,_,_,_,.cons r t,s=>.cons r (Vals.append t s)
theorem Vals.take:∀{xs:List V} {a:List Value} (n:Nat),Vals xs a->Vals (xs.take n) (a.take n)
 |_,_,0,_=>.nil
 |_,_,_+1,.nil=>.nil
 |_,_,n+1,.cons r t=>.cons r (Vals.take n t)
theorem Vals.drop:∀{xs:List V} {a:List Value} (n:Nat),Vals xs a->Vals (xs.drop n) (a.drop n)
 |_,_,0,r=>r
 |_,_,_+1,.nil=>.nil
 |_,_,n+1,.cons _ t=>Vals.drop n t
noncomputable def jL:Option V->Option Value->Prop
 |some v,some u=>RelV v u
 |none,none=>True
 |_,_=>False
noncomputable def KV{κ:Type}:List (κ×V)->List (κ×Value)->Prop:=Paired λ(p:κ×V) (q:κ×Value)=>p.1=q.1/\RelV p.2 q.2
noncomputable def kV:Key->V
 |.inl i=>.int i
 |.inr x=>.str x
def mz(h:Heap)(a:Addr)(items:Array Value):Prop:=∃n,h.get? a=some {cls:=.type "tuple",data:=.seq items n}
theorem mz.is{h:Heap}{a:Addr}{items:Array Value}(x:mz h a items):IsTup h a items:=let ⟨n,e⟩:=x;⟨_,e,rfl,n,rfl⟩
theorem mz.new(h:Heap)(items:Array Value):mz (h.push {cls:=.type "tuple",data:=.seq items}) h.objs.size items:=⟨0,cu _ rfl⟩
inductive HO where
 |lst (xs:List V)
 |tup (xs:List V)
 |dK (kvs:List (Key×V))|dT (kvs:List (List Key×V))
 |set (S:Int->Bool) (n:Nat)
 |ins (C dx:Addr) (fs:List (Str×V))
 |own (x:Addr)
 |xd (fs:List (Str×V))
 |met (f x:Addr)
 |fK (lo hi:Int)
 |bT (o:Obj) (u:HO)
 |ja (ps:Array Value)
 |ext (φ:Heap->Prop)
abbrev Hp:=Addr->Option HO
noncomputable def upd(H:Hp)(a:Addr)(o:HO):Hp:=λb=>if b=a then some o else H b
theorem fh{H:Hp}{a:Addr}{o:HO}:upd H a o a=some o:=by unfold upd;rw[aA rfl]
theorem bf{H:Hp}{a b:Addr}{o:HO}(h:b≠a):upd H a o b=H b:=by unfold upd;rw[ao h]
theorem S6{H:Hp}{a b:Addr}{o u:HO}(h:H a=some o)(h':H b=some u)(d:o≠u):a≠b:=by
 intro e;subst e;rw[h] at h';exact d (Option.some.inj h')
theorem dh{H:Hp}{a b:Addr}{o:HO}(h:H a=some o)(h':H b=none):a≠b:=by
 intro e;subst e;rw[h] at h';cases h'
section
variable(P:Program)(w:World)
noncomputable def b9(H:Hp)(h:Heap)(a:Addr):HO->Prop
 | .lst xs=>xs.length<=sizeLine/\∃(its:List Value) (n:Nat),Vals xs its/\h.get? a=some {cls:= .type "list",data:= .seq its.toArray n}
 | .tup xs=>xs.length<=sizeLine/\∃its:List Value,Vals xs its/\mz h a its.toArray
 | .dK kvs=>kvs.length<=sizeLine/\(a==sysModules)=false/\∃vs,KV kvs vs/\h.DictOf (dg P w) a vs
 | .dT kvs=>kvs.length<=sizeLine/\(a==sysModules)=false/\∃xs:List (List Key×Addr×Value),
  Paired (λ(p:List Key×V) (q:List Key×Addr×Value)=>p.1=q.1/\H q.2.1=some (.tup (p.1.map kV))/\RelV p.2 q.2.2) kvs xs/\
  ∃o es ep,h.get? a=some o/\o.ExactDict/\o.data= .dict es ep/\es.toList=xs.map (entryOfKey (tupleKind (dg P w)))/\(xs.map (·.1)).Nodup
 | .set S n=>h.SetOf (intKind P w) a S n
 | .ins C dx fs=>H dx=some (.own a)/\fs.length<=1000/\dx≠a/\h.get? a=some (instObj C dx)/\
  ∃mA,h.Ns1 dx mA/\(∀f,jL (fs.lookup f) (mA f))/\PySem.Within mA (fs.map (·.1))
 | .own _=>∃o,h.get? a=some o
 | .xd fs=>∃mA,h.Ns1 a mA/\∀f,jL (fs.lookup f) (mA f)
 | .fK lo hi=>∃t u v,h.get? a=some {cls:= .type "range",data:= .fields #[.int lo t,.int hi u,.int 1 v]}
 | .bT o u=>h.get? a=some o/\b9 H h a u
 | .ja ps=>h.get? a=some {cls:= .none,data:= .fields ps}
 | .met f x=>h.get? a=some (methodObj (.ref f) (.ref x))
 | .ext φ=>φ h/\(∃o,h.get? a=some o)/\∀h1 h2:Heap,φ h1->(∀o,h1.get? a=some o->h2.get? a=some o)->φ h2
def cT(H:Hp)(h:Heap):Prop:=∀a o,H a=some o->b9 P w H h a o
end
section
variable{P:Program}{w:World}{H H':Hp}{h h':Heap}{a:Addr}{o:HO}
theorem b9.lt(x:b9 P w H h a o):a<h.objs.size:=by
 cases o with
 |lst xs=>obtain⟨_,_,_,_,e⟩:=x;exact aR e
 |tup xs=>obtain⟨_,_,_,p⟩:=x;exact p.is.lt
 |dK kvs=>obtain⟨_,_,_,_,o,_,_,e,_⟩:=x;exact aR e
 |dT kvs=>obtain⟨_,_,_,_,o,_,_,e,_⟩:=x;exact aR e
 |set S n=>obtain⟨o,_,_,_,e,_⟩:=x;exact aR e
 |ins C dx fs=>obtain⟨_,_,_,e,_⟩:=x;exact aR e
 |own y=>obtain⟨_,e⟩:=x;exact aR e
 |xd fs=>obtain⟨_,⟨_,_,_,e,_⟩,_⟩:=x;exact aR e
 |fK lo hi=>obtain⟨_,_,_,e⟩:=x;exact aR e
 |bT b u=>obtain⟨e,_⟩:=x;exact aR e
 |ja ps=>exact aR (show h.get? a=some _ from x)
 |met f y=>exact aR (show h.get? a=some _ from x)
 |ext c=>obtain⟨_,⟨_,e⟩,_⟩:=x;exact aR e
theorem Paired.kI{α β:Type}{F G:α->β->Prop}:∀{c:List α} {d:List β},Paired F c d->(∀a b,F a b->G a b)->Paired G c d
 |_,_,.nil,_=>.nil
 |_,_,.cons r t,f=>.cons (f _ _ r) (Paired.kI t f)
theorem b9.stay(x:b9 P w H h a o)(k:∀b u,(b=a\/H b=some (.own a))->h.get? b=some u->h'.get? b=some u)
  (l:∀b,H b=some (.own a)->H' b=some (.own a))(m:∀b xs,H b=some (.tup xs)->H' b=some (.tup xs)):b9 P w H' h' a o:=by
 induction o with
 |lst xs=>obtain⟨z,its,n,r,e⟩:=x;exact⟨z,its,n,r,k _ _ (.inl rfl) e⟩
 |tup xs=>obtain⟨z,its,r,n,e⟩:=x;exact⟨z,its,r,n,k _ _ (.inl rfl) e⟩
 |dK kvs=>obtain⟨z,y,vs,r,g,es,ep,e,c⟩:=x;exact⟨z,y,vs,r,g,es,ep,k _ _ (.inl rfl) e,c⟩
 |dT kvs=>
  obtain⟨z,y,xs,r,g,es,ep,e,c⟩:=x;exact⟨z,y,xs,Paired.kI r λp q z=>⟨z.1,m _ _ z.2.1,z.2.2⟩,g,es,ep,k _ _ (.inl rfl) e,c⟩
 |set S n=>obtain⟨g,es,ep,t,e,c⟩:=x;exact⟨g,es,ep,t,k _ _ (.inl rfl) e,c⟩
 |ins C dx fs=>
  obtain⟨d,z,ne,e,i,⟨j,es,ep,s,c⟩,r⟩:=x;exact⟨l _ d,z,ne,k _ _ (.inl rfl) e,i,⟨j,es,ep,k _ _ (.inr d) s,c⟩,r⟩
 |own y=>obtain⟨g,e⟩:=x;exact⟨g,k _ _ (.inl rfl) e⟩
 |xd fs=>obtain⟨i,⟨j,es,ep,e,c⟩,r⟩:=x;exact⟨i,⟨j,es,ep,k _ _ (.inl rfl) e,c⟩,r⟩
 |fK lo hi=>obtain⟨t,u,v,e⟩:=x;exact⟨t,u,v,k _ _ (.inl rfl) e⟩
 |bT g u A=>obtain⟨e,q⟩:=x;exact⟨k _ _ (.inl rfl) e,A q⟩
 |ja ps=>
  have e:h.get? a=some {cls:=.none,data:=.fields ps}:=x;show h'.get? a=some {cls:=.none,data:=.fields ps};exact k a _ (.inl rfl) e
 |met f y=>
  have e:h.get? a=some (methodObj (.ref f) (.ref y)):=x;show h'.get? a=some (methodObj (.ref f) (.ref y));exact k a _ (.inl rfl) e
 |ext B=>obtain⟨p,⟨o,e⟩,st⟩:=x;exact⟨st _ _ p λo q=>k _ _ (.inl rfl) q,⟨o,k _ _ (.inl rfl) e⟩,st⟩
theorem cT.lt(x:cT P w H h)(e:H a=some o):a<h.objs.size:=(x a o e).lt
theorem cT.fresh(x:cT P w H h)(e:h.objs.size<=a):H a=none:=by
 cases q:H a with
 |none=>rfl
 |some u=>exact absurd (cO (x.lt q) e) (gp _)
theorem cT.kept(x:cT P w H h)(k:∀b u,h.get? b=some u->h'.get? b=some u):cT P w H h':=λa o e=>
 (x a o e).stay (λb u _ q=>k b u q) (λ_ q=>q) λ_ _ q=>q
theorem cT.laid(x:cT P w H h)(k:∀b u,h.get? b=some u->h'.get? b=some u)(g:h.objs.size<=a)(new:b9 P w (upd H a o) h' a o):cT P w (upd H a o) h':=λb u e=>by
 have d:=x.fresh g;by_cases f:b=a
 .subst f;rw[fh] at e;cases e;exact new
 .rw[bf f] at e
  exact(x b u e).stay (λc v _ q=>k c v q) (λc q=>by rw[bf (dh q d)];exact q) λc xs q=>by rw[bf (dh q d)];exact q
end
def Rd(H:Hp)(a:Addr)(u:HO):Prop:=H a=some u\/∃o,H a=some (.bT o u)
theorem Rd.ok{P:Program}{w:World}{H:Hp}{h:Heap}{a:Addr}{u:HO}(r:Rd H a u)(x:cT P w H h):b9 P w H h a u:=by
 rcases r with r|⟨o,r⟩
 .exact x a u r
 .obtain⟨_,q⟩:=x a _ r
  exact q
noncomputable def ri:Option HO->Prop
 |some (.lst _)=>True
 |some (.dK _)=>True
 |some (.dT _)=>True
 |some (.set _ _)=>True
 |some (.ins _ _ _)=>True
 |some (.ext _)=>True
 |_=>False
section
variable{P:Program}{w:World}{H:Hp}{h h':Heap}{x e:Addr}{o':HO}
theorem cT.write(ok:cT P w H h)(g:ri (H x))(l:e=x\/H e=some (.own x))(k:∀b u,b≠e->h.get? b=some u->h'.get? b=some u)(j:∃u,h'.get? e=some u)
  (new:b9 P w (upd H x o') h' x o'):cT P w (upd H x o') h':=λb u q=>by
 have d:∀c y,H c=some (.own y)->c≠x:=λc y r z=>by subst z;rw[r] at g;exact g
 have f:∀c xs,H c=some (.tup xs)->c≠x:=λc xs r z=>by subst z;rw[r] at g;exact g
 by_cases i:b=x
 .subst i;rw[fh] at q;cases q;exact new
 .rw[bf i] at q
  by_cases a:b=e
  .have m:H b=some (.own x):=by
    rcases l with z|z
    .exact absurd (a.trans z) i
    .rw[a];exact z
   rw[q] at m;cases m;obtain⟨v,n⟩:=j;exact⟨v,by rw[a];exact n⟩
  .refine(ok b u q).stay (λc v hc r=>k c v ?_ r) (λc r=>by rw[bf (d c b r)];exact r) λc xs r=>by rw[bf (f c xs r)];exact r
   rcases hc with rfl|hc
   .exact a
   .rintro rfl
    rcases l with z|z
    .exact d c b hc z
    .rw[hc] at z;cases z;exact i rfl
end
structure Un(fs ex:List Addr)(H H':Hp)(h h':Heap):Prop where
 keep:∀b o,h.get? b=some o->H b=none->b∉fs->b∉ex->h'.get? b=some o
 slot:∀b o,h.get? b=some o->H b=none->b∈fs->b∉ex->∃sl,h'.get? b=some {o with slots:=sl}
 free:∀b o,h.get? b=some o->H b=none->b∉ex->H' b=none
 there:∀b o,h.get? b=some o->b∉ex->∃o',h'.get? b=some o'
 tups:∀b xs,H b=some (.tup xs)->H' b=some (.tup xs)
 gP:∀b o u,H b=some (.bT o u)->H' b=some (.bT o u)
 iI:∀b ps,H b=some (.ja ps)->∃more,H' b=some (.ja (ps++more))
section
variable{fs fs' ex ex':List Addr}{H H1 H2:Hp}{h h1 h2 h':Heap}{a x e:Addr}{o:HO}
theorem Un.any(u:Un fs ex H H1 h h1){b:Addr}{a:Obj}(q:h.get? b=some a)(n:H b=none)(c:b∉ex):∃e,h1.get? b=some {a with slots:=e}:=by
 by_cases d:b∈fs
 .exact u.slot b a q n d c
 .exact⟨a.slots,u.keep b a q n d c⟩
theorem Un.kept(k:∀b u,h.get? b=some u->h'.get? b=some u):Un fs ex H H h h':=
 ⟨λb a q _ _ _=>k b a q,λb a q _ _ _=>⟨a.slots,k b a q⟩,λ_ _ _ n _=>n,λb a q _=>⟨a,k b a q⟩,λ_ _ q=>q,λ_ _ _ q=>q,λ_ ps q=>⟨#[],by rw[q];simp⟩⟩
theorem Un.refl:Un fs ex H H h h:=Un.kept λ_ _ q=>q
theorem Un.laid(k:∀b u,h.get? b=some u->h'.get? b=some u)(d:h.objs.size<=a)(c:H a=none):Un fs ex H (upd H a o) h h' where
 keep:=λb u q _ _ _=>k b u q
 slot:=λb u q _ _ _=>⟨u.slots,k b u q⟩
 free:=λb u q n _=>by rw[bf (bB (cO (aR q) d))];exact n
 there:=λb u q _=>⟨u,k b u q⟩
 tups:=λb xs q=>by rw[bf (dh q c)];exact q
 gP:=λb u xs q=>by rw[bf (dh q c)];exact q
 iI:=λb ps q=>⟨#[],by rw[bf (dh q c),q];simp⟩
theorem Un.write(c:ri (H x))(j:e=x\/H e=some (.own x))(k:∀b u,b≠e->h.get? b=some u->h'.get? b=some u)(d:∃u,h'.get? e=some u):Un fs ex H (upd H x o) h h':=by
 have g:∀b,H b=none->b≠x:=λb n z=>by subst z;rw[n] at c;exact c
 have i:∀b,H b=none->b≠e:=λb n z=>by
  subst z;rcases j with r|r
  .exact g b n r
  .rw[n] at r;cases r
 have f:∀b u,H b=some u->¬ri (some u)->b≠x:=λb u q nm z=>by subst z;rw[q] at c;exact nm c
 refine⟨λb u q n _ _=>k b u (i b n) q,λb u q n _ _=>⟨u.slots,k b u (i b n) q⟩,λb u q n _=>by rw[bf (g b n)];exact n,λb u q _=>?_,
  λb xs q=>by rw[bf (f b _ q λz=>z)];exact q,λb u xs q=>by rw[bf (f b _ q λz=>z)];exact q,λb ps q=>⟨#[],by rw[bf (f b _ q λz=>z),q];simp⟩⟩
 by_cases a:b=e
 .subst a;exact d
 .exact⟨u,k b u a q⟩
end
noncomputable def xU(h:Heap)(H:Hp):List Addr:=(range h.objs.size).filter λa=>(H a).isSome
noncomputable def lE(h:Heap)(H:Hp):Heap:=hideAll h (xU h H)
theorem QA(h:Heap)(H:Hp):(lE h H).objs.size=h.objs.size:=PySem.W.hideAll_size _ _
theorem Qz{h:Heap}{H:Hp}{b:Addr}{o:Obj}(e:h.get? b=some o)(n:H b=none):(lE h H).get? b=some o:=
 hideAll_get _ e λa=>by
  have q:(H b).isSome=true:=(nh.mp a).2;rw[n] at q;simp at q
theorem TN{h:Heap}{H:Hp}{b:Addr}{o:Obj}(e:(lE h H).get? b=some o):h.get? b=some o/\H b=none:=by
 have a:h.get? b=some o:=of_hideAll (xU h H) e;refine⟨a,?_⟩;cases q:H b with
 |none=>rfl
 |some x=>
  have c:b∈xU h H:=nh.mpr ⟨mem_range.mpr (aR a),by simp[q]⟩;have z:(lE h H).get? b=none:=PySem.W.hideAll_none (xU h H) c;rw[z] at e;cases e
structure Mod(K:Frag)(mg:aB)(base:Heap):Prop where
 vN:K.In base
 glob:base.Ns mainGlobals mg
 blt:∃mb,base.Ns builtinsNs mb/\∀x:Str,x≠"__name__"->mb x=bootBuiltins x
 nolimit:base.NoLimit
structure Cx where
 prog:Program
 w:World
 K:Frag
 mg:aB
 base:Heap
 A:Around
 N:List Str
 s₀:Shared
 H₀:Hp
 env:Env
 outer:List Env
 stack:List Env
 ex:List Addr
 fn:Str->Bool
 calm:Bool
 pn:aZ
 xe:aU
noncomputable def frs(l:List Env):List Addr:=l.filterMap (·.frame)
abbrev Cx.fs(X:Cx):List Addr:=frs X.outer
def pC(sc:Scope)(x:Str):Prop:=sc.names.lookup x=some .local\/sc.names.lookup x=some .cell\/sc.names.lookup x=some .free
def Loc(sc:Scope)(x:Str):Prop:=sc.names.lookup x=some .local\/sc.names.lookup x=some .cell
def Look(env:Env)(h:Heap)(m:aB)(x:Str)(u:Value):Prop:=
 (env.kindOf x=some .local/\m x=some u)\/((env.kindOf x=some .cell\/env.kindOf x=some .free)/\∃c,env.cells.lookup x=some c/\h.IsCell c (some u))
structure Cx.Ok(X:Cx):Prop where
 mod:Mod X.K X.mg X.base
 kind:X.env.scope.kind= .function
 glob:X.env.globals=mainGlobals
 blt:X.env.builtins=builtinsNs
 above:X.s₀.heap.objs.size<=X.env.locals
 inj:∀x y c,X.env.cells.lookup x=some c->X.env.cells.lookup y=some c->x=y
 has:∀x,(X.env.kindOf x=some .cell\/X.env.kindOf x=some .free)->∃c,X.env.cells.lookup x=some c
 uU:∀x c,X.fn x=true->X.env.cells.lookup x=some c->X.s₀.heap.objs.size<=c
 hd:X.calm=true->X.A.handled=none
 frames:X.A.frames=some X.stack
 stk:X.stack=X.outer\/(X.stack=X.env::X.outer/\X.env.frame=some X.env.locals)
 Of:∀b∈X.ex,b≠X.env.locals/\∀x c,X.env.cells.lookup x=some c->c≠b
 bs:∀b o,X.base.get? b=some o->X.s₀.heap.get? b=some o/\X.H₀ b=none
 nK:X.base.objs.size<=X.s₀.heap.objs.size
 wc:∀b o,X.base.get? b=some o->b∉X.ex
 z3:∀b∈X.ex,b∉X.fs
 kE:X.s₀.heap.FunFrames X.base X.outer
 pR:∀b∈X.fs,X.H₀ b=none
structure Inv(X:Cx)(pins:aZ)(σ:List (Option V))(H:Hp)(s:Shared):Prop where
 ok:X.Ok
 os:s.os=X.s₀.os
 bare:AllBare s.gens
 base:Un X.fs X.ex X.H₀ H X.s₀.heap s.heap
 loc:∃m,s.heap.Ns X.env.locals m/\∀(i:Nat) (x:Str) (v:V),X.N[i]? =some x->σ[i]? =some (some v)->pC X.env.scope x->∃u,RelV v u/\Look X.env s.heap m x u
 cell:∀x c,X.env.cells.lookup x=some c->∃v,s.heap.IsCell c v
 free:H X.env.locals=none
 kD:∀x c,X.env.cells.lookup x=some c->H c=none
 pin:∀p∈X.pn++pins,s.heap.get? p.1=some p.2/\H p.1=none/\p.1≠X.env.locals/\p.1∉X.fs/\∀v,p.2.data≠ .cell v
 hok:cT X.prog X.w H s.heap
 len:σ.length=X.N.length
section
variable{X:Cx}{pins:aZ}{σ:List (Option V)}{H H':Hp}{s:Shared}{h':Heap}
theorem Cx.Ok.we(ok:X.Ok){b:Addr}{o:Obj}(e:X.base.get? b=some o):b∉X.fs:=λa=>by
 have:=(ok.kE.mem a).1;rw[e] at this;cases this
theorem Inv.bs(I:Inv X pins σ H s):∀b o,X.base.get? b=some o->s.heap.get? b=some o/\H b=none:=λb o e=>
 ⟨I.base.keep b o (I.ok.bs b o e).1 (I.ok.bs b o e).2 (I.ok.we e) (I.ok.wc b o e),I.base.free b o (I.ok.bs b o e).1 (I.ok.bs b o e).2 (I.ok.wc b o e)⟩
theorem Inv.bk(I:Inv X pins σ H s):∀b o,X.base.get? b=some o->s.heap.get? b=some o:=λb o e=>(I.bs b o e).1
theorem Inv.mod(I:Inv X pins σ H s):Mod X.K X.mg X.base:=I.ok.mod
theorem Inv.fZ(I:Inv X pins σ H s):X.K.In s.heap:=I.ok.mod.vN.keeps I.bk
theorem Inv.lt(I:Inv X pins σ H s):X.env.locals<s.heap.objs.size:=let ⟨_,a,_⟩:=I.loc;a.lt
theorem Inv.sz(I:Inv X pins σ H s):X.s₀.heap.objs.size<=s.heap.objs.size:=cC I.ok.above (ir I.lt)
theorem Inv.Tn(I:Inv X pins σ H s){a:Addr}(h:s.heap.objs.size<=a):a∉X.fs:=λb=>by
 obtain⟨_,o,c,_⟩:=I.ok.kE.mem b;exact absurd (cO (aR c) (cC I.sz h)) (gp _)
theorem Inv.nL(I:Inv X pins σ H s):∀x c,X.env.cells.lookup x=some c->c≠X.env.locals:=λx c e z=>by
 obtain⟨v,o,d,hd⟩:=I.cell x c e;obtain⟨m,⟨o',es,ep,a,b,_⟩,_⟩:=I.loc;rw[z,a] at d;cases d;rw[b] at hd;cases hd
theorem Inv.kE(I:Inv X pins σ H s):s.heap.FunFrames X.base X.outer:=by
 have all:∀(l:List Env),(∀b∈frs l,b∈X.fs)->X.s₀.heap.FunFrames X.base l->s.heap.FunFrames X.base l:=by
  intro l;induction l with
  |nil=>intro _ _;trivial
  |cons env r g=>
   intro f h;obtain⟨i,⟨L,o,a,j,k,hd⟩,m⟩:=h;have c:L∈X.fs:=f L (by unfold frs;rw[Cp,a];exact aT);obtain⟨n,e⟩:=I.base.slot L o k (I.ok.pR L c) c λz=>I.ok.z3 L z c;exact⟨i,⟨L,_,a,j,e,hd⟩,g (λb d=>f b (by unfold frs;rw[Cp,a];exact bq _ d)) m⟩
 exact all X.outer (λ_ d=>d) I.ok.kE
theorem Inv.stack(I:Inv X pins σ H s):s.heap.FunFrames X.base X.stack:=by
 rcases I.ok.stk with e|⟨e,a⟩
 .rw[e];exact I.kE
 .rw[e]
  obtain⟨m,b,_⟩:=I.loc;refine .cons (by rw[I.ok.kind];decide) a b ?_ I.kE;exact Heap.get?_none_of_le (cC I.ok.nK I.ok.above)
theorem Inv.qi(I:Inv X pins σ H s):∀b∈frs X.stack,b∈X.env.locals::X.fs:=λb a=>by
 rcases I.ok.stk with e|⟨e,c⟩
 .rw[e] at a;exact bq _ a
 .rw[e] at a
  unfold frs at a;rw[Cp,c] at a;exact a
theorem Inv.BH(I:Inv X pins σ H s):∀b∈frs X.stack,H b=none:=λb hb=>by
 rcases aY.mp (I.qi b hb) with e|hb
 .rw[e];exact I.free
 .obtain⟨_,o,a,_⟩:=I.ok.kE.mem hb
  exact I.base.free b o a (I.ok.pR b hb) λz=>I.ok.z3 b z hb
theorem Inv.step{g':Array GenState}{t':Nat}{d':Drawn}{ch:List Addr}(I:Inv X pins σ H s)
  (f:∀b∈ch,(b∈X.ex\/X.s₀.heap.objs.size<=b)/\b≠X.env.locals/\(∀x c,X.env.cells.lookup x=some c->c≠b)/\∀p∈X.pn++pins,p.1≠b)
  (keep:∀b o,b≠X.env.locals->b∉X.fs->b∉ch->s.heap.get? b=some o->H b=none->h'.get? b=some o)
  (slot:∀b o,b≠X.env.locals->b∈X.fs->b∉ch->s.heap.get? b=some o->H b=none->∃D,h'.get? b=some {o with slots:=D})(free:∀b o,b∉ch->s.heap.get? b=some o->H b=none->H' b=none)
  (there:∀b o,b∉ch->s.heap.get? b=some o->∃o',h'.get? b=some o')
  (tups:∀b xs,H b=some (.tup xs)->H' b=some (.tup xs))(gP:∀b o u,H b=some (.bT o u)->H' b=some (.bT o u))(iI:∀b ps,H b=some (.ja ps)->∃A,H' b=some (.ja (ps++A)))
  (ns:∀m,s.heap.Ns X.env.locals m->h'.Ns X.env.locals m)(hok:cT X.prog X.w H' h')(J:AllBare g'):
  Inv X pins σ H' {s with heap:=h',gens:=g',drawn:=d',toks:=t'}:=by
 have B:∀b o,X.s₀.heap.get? b=some o->b≠X.env.locals:=λb o e=>bB (cO (aR e) I.ok.above)
 have h:∀b o,X.s₀.heap.get? b=some o->b∉X.ex->b∉ch:=λb o e a t=>by
  rcases (f b t).1 with z|z
  .exact a z
  .exact absurd (cO (aR e) z) (gp _)
 have cellK:∀x c,X.env.cells.lookup x=some c->∀v,s.heap.IsCell c v->h'.IsCell c v:=λx c e v ⟨o,y,hd⟩=>by
  have g:c∉ch:=λz=>(f c z).2.2.1 x c e rfl
  by_cases hc:c∈X.fs
  .obtain⟨D,q⟩:=slot c o (I.nL x c e) hc g y (I.kD x c e)
   exact⟨_,q,hd⟩
  .exact⟨o,keep c o (I.nL x c e) hc g y (I.kD x c e),hd⟩
 refine⟨I.ok,I.os,J,⟨λb o e n t a=> ?_,λb o e n t a=> ?_,λb o e n a=> ?_,λb o e a=> ?_,λb xs e=>tups b xs (I.base.tups b xs e),λb o xs e=>gP b o xs (I.base.gP b o xs e),λb ps e=> ?_⟩,?_,λx c e=> ?_,?_,λx c e=> ?_,λp F=> ?_,hok,I.len⟩
 .exact keep b o (B b o e) t (h b o e a) (I.base.keep b o e n t a) (I.base.free b o e n a)
 .obtain⟨D,j⟩:=I.base.slot b o e n t a
  obtain⟨E,C⟩:=slot b _ (B b o e) t (h b o e a) j (I.base.free b o e n a)
  exact⟨E,C⟩
 .obtain⟨o',j⟩:=I.base.there b o e a
  exact free b o' (h b o e a) j (I.base.free b o e n a)
 .obtain⟨o',j⟩:=I.base.there b o e a
  exact there b o' (h b o e a) j
 .obtain⟨K,j⟩:=I.base.iI b ps e
  obtain⟨L,C⟩:=iI b _ j
  exact⟨K++L,by rw[C,Array.append_assoc]⟩
 .obtain⟨m,M,N⟩:=I.loc
  refine⟨m,ns m M,λi x v j C O=> ?_⟩
  obtain⟨u,r,l⟩:=N i x v j C O
  refine⟨u,r,?_⟩
  rcases l with l|⟨k,c,e,z⟩
  .exact .inl l
  .exact .inr ⟨k,c,e,cellK x c e _ z⟩
 .obtain⟨v,z⟩:=I.cell x c e
  exact⟨v,cellK x c e v z⟩
 .obtain⟨m,⟨o,_,_,y,_⟩,_⟩:=I.loc
  exact free _ o (λz=>(f _ z).2.1 rfl) y I.free
 .obtain⟨v,o,y,hd⟩:=I.cell x c e
  exact free c o (λz=>(f c z).2.2.1 x c e rfl) y (I.kD x c e)
 .obtain⟨e,n,ne,G,d⟩:=I.pin p F
  have g:p.1∉ch:=λz=>(f p.1 z).2.2.2 p F rfl
  exact⟨keep p.1 p.2 ne G g e n,free p.1 p.2 g e n,ne,G,d⟩
theorem Inv.un{t':Nat}(I:Inv X pins σ H s)(u:Un X.fs [] H H' s.heap h')(hok:cT X.prog X.w H' h'):Inv X pins σ H' {s with heap:=h',toks:=t'}:=by
 obtain⟨m,⟨o,es,ep,g,r⟩,_⟩:=id I.loc;obtain⟨j,h⟩:=u.any g I.free θ;exact I.step (g':=s.gens) (d':=s.drawn) (ch:=[]) (λ_ z=>nomatch z) (λb o _ c _ e n=>u.keep b o e n c θ) (λb o _ c _ e n=>u.slot b o e n c θ) (λb o _ e n=>u.free b o e n θ) (λb o _ e=>u.there b o e θ) u.tups u.gP u.iI (λk i=>by
  obtain⟨o',d,f,a,r'⟩:=i;rw[g] at a;cases a;exact⟨_,d,f,h,r'⟩) hok I.bare
theorem Inv.call{g':Array GenState}{t':Nat}{d':Drawn}{ch:List Addr}(I:Inv X pins σ H s)(u:Un (frs X.stack) ch H H' s.heap h')(hok:cT X.prog X.w H' h')(j:AllBare g')
  (a:∀b∈ch,(b∈X.ex\/X.s₀.heap.objs.size<=b)/\b≠X.env.locals/\(∀x c,X.env.cells.lookup x=some c->c≠b)/\∀p∈X.pn++pins,p.1≠b):
  Inv X pins σ H' {s with heap:=h',gens:=g',drawn:=d',toks:=t'}:=by
 obtain⟨m,⟨o,es,ep,i,r⟩,_⟩:=id I.loc;obtain⟨q,f⟩:=u.any i I.free λz=>(a _ z).2.1 rfl;exact I.step (ch:=ch) a (λb o f k hc e n=>u.keep b o e n (λz=>(aY.mp (I.qi b z)).elim f k) hc) (λb o _ _ hc e n=>u.any e n hc) (λb o hc e n=>u.free b o e n hc) (λb o hc e=>u.there b o e hc) u.tups u.gP u.iI (λt l=>by
  obtain⟨o',g,h,d,r'⟩:=l;rw[i] at d;cases d;exact⟨_,g,h,f,r'⟩) hok j
theorem Inv.turned{t':Nat}{it:Addr}(I:Inv X pins σ H s)(k:∀b o,b≠it->s.heap.get? b=some o->h'.get? b=some o)(f:H it=none)(d:it≠X.env.locals)
  (h1:it∈X.ex\/X.s₀.heap.objs.size<=it)(h2:∀x c,X.env.cells.lookup x=some c->c≠it)(g:∀p∈X.pn++pins,p.1≠it):Inv X pins σ H {s with heap:=h',toks:=t'}:=by
 have a:∀b u,H b=some u->b≠it:=λb u e z=>by rw[z,f] at e;cases e
 refine I.step (g':=s.gens) (d':=s.drawn) (ch:=[it]) (λb h=>?_) (λb o _ _ hc e _=>k b o (λz=>hc (by simp[z])) e) (λb o _ _ hc e _=>⟨o.slots,k b o (λz=>hc (by simp[z])) e⟩) (λ_ _ _ _ n=>n)
  (λb o hc e=>⟨o,k b o (λz=>hc (by simp[z])) e⟩) (λ_ _ e=>e) (λ_ _ _ e=>e) (λb ps e=>⟨#[],by rw[e];simp⟩) (λm i=>?_) (λb u e=>?_) I.bare
 .have e:b=it:=by simpa using h
  subst e;exact⟨h1,d,h2,g⟩
 .obtain⟨o,es,ep,j,r⟩:=i
  exact⟨o,es,ep,k _ o (Ne.symm d) j,r⟩
 .refine(I.hok b u e).stay (λc v hc q=>k c v ?_ q) (λ_ q=>q) λ_ _ q=>q
  rcases hc with z|z
  .rw[z];exact a b u e
  .exact a c _ z
theorem Inv.tok(I:Inv X pins σ H s)(t:Nat):Inv X pins σ H {s with toks:=t}:=I.un (h':=s.heap) (t':=t) Un.refl I.hok
theorem Inv.kept{t':Nat}(I:Inv X pins σ H s)(k:∀b u,s.heap.get? b=some u->h'.get? b=some u):Inv X pins σ H {s with heap:=h',toks:=t'}:=I.un (Un.kept k) (I.hok.kept k)
theorem Inv.laid{a:Addr}{o:HO}{t':Nat}(I:Inv X pins σ H s)(k:∀b u,s.heap.get? b=some u->h'.get? b=some u)(c:s.heap.objs.size<=a)(new:b9 X.prog X.w (upd H a o) h' a o):
 Inv X pins σ (upd H a o) {s with heap:=h',toks:=t'}:=I.un (Un.laid k c (I.hok.fresh c)) (I.hok.laid k c new)
theorem Inv.write{x e:Addr}{o:HO}{t':Nat}(I:Inv X pins σ H s)(c:ri (H x))(d:e=x\/H e=some (.own x))(k:∀b u,b≠e->s.heap.get? b=some u->h'.get? b=some u)(a:∃u,h'.get? e=some u)
 (new:b9 X.prog X.w (upd H x o) h' x o):Inv X pins σ (upd H x o) {s with heap:=h',toks:=t'}:=I.un (Un.write c d k a) (I.hok.write c d k a new)
theorem Inv.weak{σ':List (Option V)}(I:Inv X pins σ H s)(b:σ'.length=σ.length)(w:∀(i:Nat) v,σ'[i]?=some (some v)->σ[i]?=some (some v)):Inv X pins σ' H s:=
 ⟨I.ok,I.os,I.bare,I.base,let ⟨m,c,a⟩:=I.loc;⟨m,c,λi x v d e f=>a i x v d (w i v e) f⟩,I.cell,I.free,I.kD,I.pin,I.hok,b.trans I.len⟩
theorem Inv.HR{a:aZ}(I:Inv X pins σ H s)(h:∀p∈a,s.heap.get? p.1=some p.2/\H p.1=none/\p.1≠X.env.locals/\p.1∉X.fs/\∀v,p.2.data≠ .cell v):Inv X a σ H s:=
 ⟨I.ok,I.os,I.bare,I.base,I.loc,I.cell,I.free,I.kD,λp b=>(bX.mp b).elim (λz=>I.pin p (oK _ z)) (h p),I.hok,I.len⟩
theorem Hy{N:List Str}(c:N.Nodup){i j:Nat}{x:Str}(a:N[i]?=some x)(b:N[j]?=some x):i=j:=by
 obtain⟨h1,d⟩:=bY.mp a;obtain⟨h2,e⟩:=bY.mp b;exact(List.getElem_inj c).mp (d.trans e.symm)
theorem Kl {M : Model} {A : Around} {E : aU} {i : Nat} {x : Str} {v : V} {u : Value} {Q : Unit → Shared → Prop} (I : Inv X pins σ H s) (hN : X.N.Nodup) (hi : X.N[i]? = some x) (l : Loc X.env.scope x) (r : RelV v u)
    (h : ∀ s', Inv X pins (σ.set i (some v)) H s' → (∃ a, SameBut a s.heap s'.heap ∧ (a = X.env.locals ∨ X.env.cells.lookup x = some a)) → Q () s') (hf : X.fn x = true ∨ X.env.scope.names.lookup x = some .local := by first | exact .inl rfl | exact .inr rfl | assumption) : wpAny M A (storeName X.env x u) Q E s := by
  obtain ⟨m, S, hl⟩ := id I.loc
  have J : (X.env.scope.kind == .class || (X.env.scope.kind == .module && X.env.locals != X.env.globals)) = false := by rw [I.ok.kind]; rfl
  have C : i < σ.length := by rw [I.len]; exact (bY.mp hi).1
  have nL := I.nL
  have tracked : ∀ {a : Addr} {h' : Heap}, (∃ o, s.heap.get? a = some o ∧ H a = none) → SameBut a s.heap h' → cT X.prog X.w H h' := fun {a h'} ha f b ob e => by
    obtain ⟨_, _, t⟩ := ha
    refine (I.hok b ob e).stay (fun c R hc q => (f.2 c ?_).trans q) (fun _ q => q) fun _ _ q => q
    rintro rfl
    rcases hc with rfl | hc
    · rw [t] at e; cases e
    · rw [t] at hc; cases hc
  rcases l with hk | hk
  · refine wpAny_storeName_local hk S (fun h' T f => ?_) J
    obtain ⟨oL, _, _, U, _⟩ := id S
    refine h _ ⟨I.ok, I.os, I.bare, ⟨fun b o e n D l => ?_, fun b o e n D l => ?_, I.base.free, fun b o e l => ?_, I.base.tups, I.base.gP, I.base.iI⟩, ⟨_, T, fun j y W g B Y => ?_⟩, fun y c e => ?_, I.free, I.kD, fun p Z => ?_, tracked ⟨oL, U, I.free⟩ f, by simpa using I.len⟩ ⟨_, f, .inl rfl⟩
    · exact (f.2 b (bB (cO (aR e) I.ok.above))).trans (I.base.keep b o e n D l)
    · obtain ⟨sl, g⟩ := I.base.slot b o e n D l
      exact ⟨sl, (f.2 b (bB (cO (aR e) I.ok.above))).trans g⟩
    · obtain ⟨o', g⟩ := I.base.there b o e l
      exact ⟨o', (f.2 b (bB (cO (aR e) I.ok.above))).trans g⟩
    · by_cases F : j = i
      · subst F
        rw [hi] at g; cases g
        rw [eF C] at B
        cases B
        exact ⟨u, r, .inl ⟨hk, by simp⟩⟩
      · rw [eE (Ne.symm F)] at B
        obtain ⟨u', r', q⟩ := hl j y W g B Y
        refine ⟨u', r', ?_⟩
        rcases q with ⟨k, e⟩ | ⟨k, c, e, z⟩
        · refine .inl ⟨k, ?_⟩
          have : y ≠ x := fun e => F (Hy hN g (e ▸ hi))
          simp [this, e]
        · exact .inr ⟨k, c, e, z.sameBut f (nL y c e)⟩
    · obtain ⟨R, z⟩ := I.cell y c e
      exact ⟨R, z.sameBut f (nL y c e)⟩
    · obtain ⟨e, n, ne, nf, d⟩ := I.pin p Z
      exact ⟨(f.2 p.1 ne).trans e, n, ne, nf, d⟩
  · have G : X.fn x = true := by
      rcases hf with z | z
      · exact z
      · rw [z] at hk; cases hk
    obtain ⟨c, hc⟩ := I.ok.has x (.inl hk)
    obtain ⟨R, z⟩ := I.cell x c hc
    refine wpAny_storeName_cell I.ok.kind hk hc z (fun h' K f => ?_)
    obtain ⟨oc, L, O⟩ := id z
    refine h { s with heap := h' } ⟨I.ok, I.os, I.bare, ⟨fun b o e n D l => ?_, fun b o e n D l => ?_, I.base.free, fun b o e l => ?_, I.base.tups, I.base.gP, I.base.iI⟩, ⟨m, S.sameBut f (Ne.symm (nL x c hc)), fun j y W g B Y => ?_⟩, fun y c' e => ?_, I.free, I.kD, fun p Z => ?_, tracked ⟨oc, L, I.kD x c hc⟩ f, by simpa using I.len⟩ ⟨c, f, .inr hc⟩
    · exact (f.2 b (bB (cO (aR e) (I.ok.uU x c G hc)))).trans (I.base.keep b o e n D l)
    · obtain ⟨sl, g⟩ := I.base.slot b o e n D l
      exact ⟨sl, (f.2 b (bB (cO (aR e) (I.ok.uU x c G hc)))).trans g⟩
    · obtain ⟨o', g⟩ := I.base.there b o e l
      exact ⟨o', (f.2 b (bB (cO (aR e) (I.ok.uU x c G hc)))).trans g⟩
    · by_cases F : j = i
      · subst F
        rw [hi] at g; cases g
        rw [eF C] at B
        cases B
        exact ⟨u, r, .inr ⟨.inl hk, c, hc, K⟩⟩
      · rw [eE (Ne.symm F)] at B
        obtain ⟨u', r', q⟩ := hl j y W g B Y
        refine ⟨u', r', ?_⟩
        rcases q with q | ⟨k, c', e, z'⟩
        · exact .inl q
        · refine .inr ⟨k, c', e, z'.sameBut f ?_⟩
          rintro rfl
          exact F (Hy hN g (I.ok.inj _ _ _ e hc ▸ hi))
    · by_cases P : c' = c
      · subst P; exact ⟨_, K⟩
      · obtain ⟨w2, z2⟩ := I.cell y c' e
        exact ⟨w2, z2.sameBut f P⟩
    · obtain ⟨e, n, ne, nf, d⟩ := I.pin p Z
      refine ⟨(f.2 p.1 ?_).trans e, n, ne, nf, d⟩
      intro q
      rw [q, L] at e
      have q' : oc = p.2 := Option.some.inj e
      exact d R (by rw [← q']; exact O)
theorem tN{M:Model}{A:Around}{E:aU}{i:Nat}{x:Str}{v:V}{u:Value}{Q:Unit->Shared->Prop}(I:Inv X pins σ H s)(a:X.N.Nodup)(hi:X.N[i]?=some x)(b:Loc X.env.scope x)(r:RelV v u)
  (h:∀s',Inv X pins (σ.set i (some v)) H s'->Q () s')(c:X.fn x=true\/X.env.scope.names.lookup x=some .local:=by first|exact .inl rfl|exact .inr rfl|assumption):wpAny M A (storeName X.env x u) Q E s:=
 Kl I a hi b r (λs' d _=>h s' d) c
theorem Inv.Ma{s':Shared}{ch:List Addr}(I:Inv X pins σ H s)(d:s'.os=s.os)(u:Un (frs X.stack) ch H H' s.heap s'.heap)(hok:cT X.prog X.w H' s'.heap)(f:AllBare s'.gens)
  (a:∀b∈ch,(b∈X.ex\/X.s₀.heap.objs.size<=b)/\b≠X.env.locals/\(∀x c,X.env.cells.lookup x=some c->c≠b)/\∀p∈X.pn++pins,p.1≠b):Inv X pins σ H' s':=by
 obtain⟨h',g',d',t',o'⟩:=s';have e:o'=s.os:=d;subst e;exact I.call (g':=g') (t':=t') (d':=d') u hok f a
end
abbrev XK:=Value->Option Addr->Hp->Prop
abbrev St:=List (Option V)
abbrev VK:=V->Hp->Prop
abbrev TE:=St->Hp->VK->Prop
abbrev TT:=St->Hp->(Bool->Hp->Prop)->Prop
abbrev TA:=St->Hp->(List V->Hp->Prop)->Prop
structure Ends where
 nx:St->Hp->Prop
 rt:VK
 bk:St->Hp->Prop:=λ_ _=>False
 ct:St->Hp->Prop:=λ_ _=>False
abbrev TS:=Ends->St->Hp->Prop
def EP(X:Cx)(pins:aZ)(σ:St)(Q:VK)(u:Value)(s':Shared):Prop:=∃v H',Inv X pins σ H' s'/\RelV v u/\Q v H'
def TP(X:Cx)(pins:aZ)(σ:St)(Q:Bool->Hp->Prop)(b:Bool)(s':Shared):Prop:=∃H',Inv X pins σ H' s'/\Q b H'
def AP(X:Cx)(pins:aZ)(σ:St)(Q:List V->Hp->Prop)(us:List Value)(s':Shared):Prop:=∃vs H',Inv X pins σ H' s'/\Vals vs us/\Q vs H'
def SP(X:Cx)(pins:aZ)(D:Ends)(f:Flow)(s':Shared):Prop:=
 match f with
 |.next=>∃σ' H',Inv X pins σ' H' s'/\D.nx σ' H'
 |.brk=>∃σ' H',Inv X pins σ' H' s'/\D.bk σ' H'
 |.cont=>∃σ' H',Inv X pins σ' H' s'/\D.ct σ' H'
 |.ret u=>∃v σ' H',Inv X pins σ' H' s'/\RelV v u/\D.rt v H'
def PE(X:Cx)(e:Expr)(t:TE):Prop:=
 ∀(pins:aZ) (s:Shared) (σ:St) (H:Hp) (Q:VK),Inv X pins σ H s->t σ H Q->wpAny (model X.prog X.w) X.A (eval e X.env) (EP X pins σ Q) X.xe s
def PT(X:Cx)(e:Expr)(t:TT):Prop:=
 ∀(pins:aZ) (s:Shared) (σ:St) (H:Hp) (Q:Bool->Hp->Prop),Inv X pins σ H s->t σ H Q->wpAny (model X.prog X.w) X.A (isTrue e X.env (eval e X.env)) (TP X pins σ Q) X.xe s
def PW(X:Cx)(e:Expr)(t:TT):Prop:=
 ∀(whole:Sem Value) (pins:aZ) (s:Shared) (σ:St) (H:Hp) (Q:Bool->Hp->Prop),Inv X pins σ H s->t σ H Q->wpAny (model X.prog X.w) X.A (isTrue e X.env whole) (TP X pins σ Q) X.xe s
theorem PW.pt{X:Cx}{e:Expr}{t:TT}(h:PW X e t):PT X e t:=h _
def PA(X:Cx)(es:List Expr)(t:TA):Prop:=
 ∀(pos:Pos) (pins:aZ) (s:Shared) (σ:St) (H:Hp) (Q:List V->Hp->Prop),Inv X pins σ H s->t σ H Q->wpAny (model X.prog X.w) X.A (spliced (backTo pos (starEach es X.env))) (AP X pins σ Q) X.xe s
def PS(X:Cx)(st:Stmt)(t:TS):Prop:=
 ∀(pins:aZ) (s:Shared) (σ:St) (H:Hp) (D:Ends),Inv X pins σ H s->t D σ H->wpAny (model X.prog X.w) X.A (exec st X.env) (SP X pins D) X.xe s
def dU(X:Cx)(st:List Stmt)(t:TS):Prop:=
 ∀(pins:aZ) (s:Shared) (σ:St) (H:Hp) (D:Ends),Inv X pins σ H s->t D σ H->wpAny (model X.prog X.w) X.A (execs st X.env) (SP X pins D) X.xe s
theorem aJ{α:Type}{t:Sem α}{Q b:α->Shared->Prop}{M:Model}{A:Around}{E:aU}{s:Shared}(h:wpAny M A t Q E s)(c:∀a s,Q a s->b a s):wpAny M A t b E s:=kU h c λ_ _ x=>x
section
variable{X:Cx}
def YC(i:Nat):TE:=λσ H Q=>∃v,σ[i]?=some (some v)/\Q v H
def tC(v:V):TE:=λ_ H Q=>Q v H
theorem UT{i:Nat}{x:Str}{pos:Pos}(d:X.N[i]?=some x)(f:pC X.env.scope x)(hd:(x==("__debug__":Str))=false:=by decide)(b:(x==("__classdict__":Str))=false:=by decide):PE X (.Name x pos) (YC i):=by
 intro pins s σ H Q I h;obtain⟨v,e,h⟩:=h;obtain⟨m,g,j⟩:=I.loc;obtain⟨u,r,l⟩:=j i x v d e f;have fin:EP X pins σ Q u s:=⟨v,H,I,r,h⟩;rcases l with⟨hk,k⟩|⟨hk,c,hc,a⟩
 .exact wpAny_Name (wpAny_loadName_local I.ok.kind hk g k fin) hd
 .rcases hk with hk|hk
  .exact wpAny_Name (wpAny_loadName_cell I.ok.kind hk hc a fin) hd
  .exact wpAny_Name (wpAny_loadName_free I.ok.kind hk hc a fin b) hd
theorem UE{i j pos}:PE X (.Constant (.int i) j pos) (tC (.int i)):=λ_ _ _ H _ I h=>wpAny_Constant_int ⟨.int i,H,I.tok _,⟨_,rfl⟩,h⟩
theorem Us{b j pos}:PE X (.Constant (.bool b) j pos) (tC (.bl b)):=λ_ _ _ H _ I h=>Constant_bool ⟨.bl b,H,I,rfl,h⟩
theorem UJ{j pos}:PE X (.Constant .none j pos) (tC .aG):=λ_ _ _ H _ I h=>Constant_none ⟨.aG,H,I,rfl,h⟩
theorem UP{x j pos}:PE X (.Constant (.str x) j pos) (tC (.str x)):=λ_ _ _ H _ I h=>Calls.Constant_str ⟨.str x,H,I.tok _,⟨_,rfl⟩,h⟩
def Gl(X:Cx)(x:Str):Prop:=X.env.kindOf x=some .globalImplicit
theorem AA{E:aU}{pins:aZ}{s:Shared}{σ:St}{H:Hp}{x:Str}{u:Value}{pos:Pos}{Q:aU}(I:Inv X pins σ H s)(a:Gl X x)(b:X.mg x=some u)(h:Q u s)
  (hd:(x==("__debug__":Str))=false:=by decide):wpAny (model X.prog X.w) X.A (eval (.Name x pos) X.env) Q E s:=
 Calls.Name_function_global I.ok.kind a (Calls.loadGlobal_global (by rw[I.ok.glob];exact I.mod.glob.keeps I.bk) b h) hd
theorem jv{E:aU}{pins:aZ}{s:Shared}{σ:St}{H:Hp}{x:Str}{u:Value}{pos:Pos}{Q:aU}(I:Inv X pins σ H s)(a:Gl X x)(b:X.mg x=none)(c:bootBuiltins x=some u)(h:Q u s)
  (d:x≠"__name__":=by decide)(hd:(x==("__debug__":Str))=false:=by decide):wpAny (model X.prog X.w) X.A (eval (.Name x pos) X.env) Q E s:=by
 obtain⟨mb,h1,h2⟩:=I.mod.blt;exact Calls.Name_function_global I.ok.kind a (Calls.loadGlobal_builtin (by rw[I.ok.glob];exact I.mod.glob.keeps I.bk) b (by rw[I.ok.blt];exact h1.keeps I.bk) ((h2 x d).trans c) h) hd
theorem UC{x:Str}{v:V}{u:Value}{pos:Pos}(a:Gl X x)(b:X.mg x=some u)(r:RelV v u)(hd:(x==("__debug__":Str))=false:=by decide):PE X (.Name x pos) (tC v):=
 λ_ _ _ H _ I h=>AA I a b ⟨v,H,I,r,h⟩ hd
theorem Ut{x:Str}{v:V}{u:Value}{pos:Pos}(a:Gl X x)(b:X.mg x=none)(c:bootBuiltins x=some u)(r:RelV v u)(d:x≠"__name__":=by decide)(hd:(x==("__debug__":Str))=false:=by decide):PE X (.Name x pos) (tC v):=
 λ_ _ _ H _ I h=>jv I a b c ⟨v,H,I,r,h⟩ d hd
variable{a b:Expr}{ta tb:TE}{pos:Pos}
def tB(t:TE):TT:=λσ H Q=>t σ H λx H1=>∃c,x=.bl c/\Q c H1
theorem VD{e:Expr}{t:TE}(h:PE X e t)(a:∀whole,isTrue e X.env whole=(do let v <-whole;standAt e.pos;holding [v] (truthy v)):=by intro _;rfl):PT X e (tB t):=by
 intro pins s σ H Q I b;refine isTrue_plain (aJ (h pins s σ H _ I b) λv i ⟨x,H1,c,f,g⟩=>?_) (a _);obtain⟨d,rfl,q⟩:=g;cases f;exact nk ⟨H1,c,q⟩
variable{tA xS:TT}{rest:List Expr}
def X7(t u:TT):TT:=λσ H Q=>t σ H λc H1=>if c=true then u σ H1 Q else Q false H1
def Yq(t u:TT):TT:=λσ H Q=>t σ H λc H1=>if c=true then Q true H1 else u σ H1 Q
def Yp(t:TT):TT:=λσ H Q=>t σ H λc H1=>Q (!c) H1
theorem pw_and1(b:PT X a tA):PW X (.BoolOp .And [a] pos) tA:=by
 intro d pins s σ H Q I h;refine isTrue_and (aJ (b pins s σ H Q I h) λc f e=>?_);cases c with
 |true=>exact isTrue_and_nil e
 |false=>exact e
theorem pw_or1(b:PT X a tA):PW X (.BoolOp .Or [a] pos) tA:=by
 intro d pins s σ H Q I h;refine isTrue_or (aJ (b pins s σ H Q I h) λc f e=>?_);cases c with
 |false=>exact isTrue_or_nil e
 |true=>exact e
theorem pw_and(f:PT X a tA)(g:PW X (.BoolOp .And (b::rest) pos) xS):PW X (.BoolOp .And (a::b::rest) pos) (X7 tA xS):=by
 intro i pins s σ H Q I h;refine isTrue_and (aJ (f pins s σ H _ I h) λc j ⟨H1,d,e⟩=>?_);cases c with
 |true=>exact g i pins j σ H1 Q d e
 |false=>exact⟨H1,d,e⟩
theorem pw_or(f:PT X a tA)(g:PW X (.BoolOp .Or (b::rest) pos) xS):PW X (.BoolOp .Or (a::b::rest) pos) (Yq tA xS):=by
 intro i pins s σ H Q I h;refine isTrue_or (aJ (f pins s σ H _ I h) λc j ⟨H1,d,e⟩=>?_);cases c with
 |true=>exact⟨H1,d,e⟩
 |false=>exact g i pins j σ H1 Q d e
theorem VC(b:PT X a tA):PT X (.UnaryOp .Not a pos) (Yp tA):=by
 intro pins s σ H Q I h;exact isTrue_not (b pins s σ H (λc H1=>Q (!c) H1) I h)
def X8(ta tb:TE):TE:=λσ H Q=>ta σ H λx H1=>∃c,x=.bl c/\if c=true then tb σ H1 Q else Q (.bl false) H1
theorem UK{op}{t:TE}(h:PE X a t):PE X (.BoolOp op [a] pos) t:=λpins s σ H Q I b=>BoolOp_one (h pins s σ H Q I b)
theorem Ur(f:PE X a ta)(g:PE X (.BoolOp .And (b::rest) pos) tb):PE X (.BoolOp .And (a::b::rest) pos) (X8 ta tb):=by
 intro pins s σ H Q I h;refine BoolOp_and (aJ (f pins s σ H _ I h) λv i ⟨x,H1,e,j,d⟩=>?_);obtain⟨c,rfl,d⟩:=d;cases j;refine nk ?_;cases c with
 |true=>exact g pins i σ H1 Q e d
 |false=>exact⟨.bl false,H1,e,rfl,d⟩
def Yj(t:TT)(ta tb:TE):TE:=λσ H Q=>t σ H λc H1=>if c=true then ta σ H1 Q else tb σ H1 Q
theorem UD{c:Expr}(hc:PT X c tA)(i:PE X a ta)(j:PE X b tb):PE X (.IfExp c a b pos) (Yj tA ta tb):=by
 intro pins s σ H Q I h;refine wpAny_IfExp (aJ (hc pins s σ H _ I h) λd e ⟨H1,f,g⟩=>?_);cases d with
 |true=>exact i pins e σ H1 Q f g
 |false=>exact j pins e σ H1 Q f g
end
def aV(K:Frag)(H:Hp)(a:Addr)(xs:List V):Prop:=
 Rd H a (.lst xs)\/
  ∃(o:Obj) (its:Array Value) (n:Nat),K.lookup a=some o/\o.cls=.type "list"/\o.dict=none/\o.data=.seq its n/\its.size<=sizeLine/\Vals xs its.toList
def bP(K:Frag)(H:Hp)(a:Addr)(xs:List V):Prop:=
 Rd H a (.tup xs)\/
  ∃(o:Obj) (its:Array Value) (n:Nat),K.lookup a=some o/\o.cls=.type "tuple"/\o.data=.seq its n/\its.size<=sizeLine/\Vals xs its.toList
noncomputable def LM:Value->Option V
 |.none=>some .aG
 |.bool b=>some (.bl b)
 |.int i _=>some (.int i)
 |.str x _=>some (.str x)
 |.bytes b _=>some (.jN b)
 |.float b _=>some (.pQ b)
 |.ref a=>some (.ref a)
 |.type n=>some (.ty n)
 |_=>none
theorem RelV.abs{x:V}{u:Value}(r:RelV x u):LM u=some x:=by
 cases x with
 |aG=>cases r;rfl
 |bl _=>cases r;rfl
 |int _=>obtain⟨t,rfl⟩:=r;rfl
 |str _=>obtain⟨t,rfl⟩:=r;rfl
 |jN _=>obtain⟨t,rfl⟩:=r;rfl
 |pQ _=>obtain⟨t,rfl⟩:=r;rfl
 |ref _=>cases r;rfl
 |ty _=>cases r;rfl
theorem RelV.inj{x y:V}{u:Value}(r:RelV x u)(q:RelV y u):x=y:=Option.some.inj (r.abs.symm.trans q.abs)
theorem Vals.inj:∀{xs ys:List V} {a:List Value},Vals xs a->Vals ys a->xs=ys
 |_,_,_,.nil,.nil=>rfl
 |_,_,_,.cons r t,.cons r' t'=>by rw[r.inj r',Vals.inj t t']
section
variable{X:Cx}{pins:aZ}{σ:St}{H:Hp}{s:Shared}{a:Addr}{xs ys:List V}
theorem aV.of{K:Frag}(h:H a=some (.lst xs)):aV K H a xs:=.inl (.inl h)
theorem bP.of{K:Frag}(h:H a=some (.tup xs)):bP K H a xs:=.inl (.inl h)
theorem Inv.list(I:Inv X pins σ H s)(h:aV X.K H a xs):∃its:List Value,Vals xs its/\PlainL s.heap a its.toArray/\xs.length<=sizeLine:=by
 rcases h with h|⟨o,its,n,b,hc,hd,c,hz,r⟩
 .obtain⟨z,its,n,r,e⟩:=h.ok I.hok
  exact⟨its,r,⟨_,n,e,rfl,rfl,rfl⟩,z⟩
 .refine⟨its.toList,r,⟨o,n,I.fZ a o b,hc,hd,by simpa using c⟩,?_⟩
  have e:=r.length;simp only[gn] at e;omega
theorem Inv.tuple(I:Inv X pins σ H s)(h:bP X.K H a xs):∃its:List Value,Vals xs its/\IsTup s.heap a its.toArray/\xs.length<=sizeLine:=by
 rcases h with h|⟨o,its,n,b,hc,c,hz,r⟩
 .obtain⟨z,its,r,p⟩:=h.ok I.hok
  exact⟨its,r,p.is,z⟩
 .refine⟨its.toList,r,⟨o,I.fZ a o b,hc,n,by simpa using c⟩,?_⟩
  have e:=r.length;simp only[gn] at e;omega
theorem Inv.YK(I:Inv X pins σ H s)(h:H a=some (.tup xs)):∃(its:List Value) (n:Nat),Vals xs its/\s.heap.get? a=some {cls:=.type "tuple",data:=.seq its.toArray n}/\xs.length<=sizeLine:=by
 obtain⟨z,its,r,n,e⟩:=(show b9 X.prog X.w H s.heap a (.tup xs) from I.hok a _ h);exact⟨its,n,r,e,z⟩
theorem Inv.AG(I:Inv X pins σ H s)(h:aV X.K H a xs)(h':aV X.K H a ys):xs=ys:=by
 obtain⟨its,r,⟨o,n,e,_,_,d⟩,_⟩:=I.list h;obtain⟨its',r',⟨o',n',b,_,_,d'⟩,_⟩:=I.list h';rw[e] at b;cases b;rw[d] at d';injection d' with c _;have:its=its':=by simpa using cj toList c
 subst this;exact r.inj r'
theorem Inv.YL(I:Inv X pins σ H s)(h:bP X.K H a xs)(h':bP X.K H a ys):xs=ys:=by
 obtain⟨its,r,⟨o,e,_,n,d⟩,_⟩:=I.tuple h;obtain⟨its',r',⟨o',b,_,n',d'⟩,_⟩:=I.tuple h';rw[e] at b;cases b;rw[d] at d';injection d' with c _;have:its=its':=by simpa using cj toList c
 subst this;exact r.inj r'
end
section
variable{X:Cx}{st:Stmt}{rest:List Stmt}{t u:TS}{e:Expr}{te:TE}{pos:Pos}
def Ym:TS:=λD σ H=>D.nx σ H
def Yv(t u:TS):TS:=λD σ H=>t {D with nx:=u D} σ H
theorem Vy:dU X [] Ym:=λ_ _ σ H _ I h=>yt ⟨σ,H,I,h⟩
theorem Vx(h1:PS X st t)(h2:dU X rest u):dU X (st::rest) (Yv t u):=by
 intro pins s σ H D I h;refine wpAny_execs_cons (aJ (h1 pins s σ H {D with nx:=u D} I h) λf a q=>?_);cases f with
 |next=>
  obtain⟨σ',H',b,q⟩:=q;exact h2 pins a σ' H' D b q
 |ret v=>exact q
 |brk=>exact q
 |cont=>exact q
theorem Vz(h1:PS X st t):dU X [st] t:=by
 intro pins s σ H D I h;refine wpAny_execs_cons (aJ (h1 pins s σ H D I h) λf a q=>?_);cases f with
 |next=>exact yt q
 |ret v=>exact q
 |brk=>exact q
 |cont=>exact q
theorem Inv.quiet{pins:aZ}{σ:St}{H:Hp}{s:Shared}(I:Inv X pins σ H s):interactive X.env=false:=by simp[interactive,I.ok.kind]
def Yg(te:TE):TS:=λD σ H=>te σ H λ_ H1=>D.nx σ H1
theorem Vp(a:PE X e te)(b:swapsWith e none pos.line X.env=pure false:=by rfl):PS X (.Expr e pos) (Yg te):=by
 intro pins s σ H D I h;exact wpAny_Expr_any (aJ (a pins s σ H _ I h) λv f ⟨x,H1,c,g,d⟩=>⟨σ,H1,c,d⟩) I.quiet b
def Yu(te:TE):TS:=λD σ H=>te σ H D.rt
theorem Vu(a:PE X e te):PS X (.Return (some e) pos) (Yu te):=by
 intro pins s σ H D I h;exact wpAny_Return_some (aJ (a pins s σ H _ I h) λv f ⟨x,H1,b,c,d⟩=>⟨x,σ,H1,b,c,d⟩)
def Yk(c:TT)(t u:TS):TS:=λD σ H=>c σ H λb H1=>if b=true then t D σ H1 else u D σ H1
theorem Vr{c:Expr}{a b:List Stmt}{tc:TT}(hc:PT X c tc)(i:dU X a t)(j:dU X b u):PS X (.If c a b pos) (Yk tc t u):=by
 intro pins s σ H D I h;refine wpAny_If (aJ (hc pins s σ H _ I h) λd e ⟨H1,f,g⟩=>?_);cases d with
 |true=>exact i pins e σ H1 D f g
 |false=>exact j pins e σ H1 D f g
end
abbrev TG:=V->St->Hp->(St->Hp->Prop)->Prop
abbrev ko:=List V->St->Hp->(St->Hp->Prop)->Prop
def PG(X:Cx)(target:Expr)(t:TG):Prop:=
 ∀(pins:aZ) (s:Shared) (σ:St) (H:Hp) (v:V) (u:Value) (Q:St->Hp->Prop),Inv X pins σ H s->RelV v u->t v σ H Q->
  wpAny (model X.prog X.w) X.A (assign target X.env u) (λ_ s'=>∃σ' H',Inv X pins σ' H' s'/\Q σ' H') X.xe s
def ki(X:Cx)(ts:List Expr)(t:ko):Prop:=
 ∀(pins:aZ) (s:Shared) (σ:St) (H:Hp) (vs:List V) (us:List Value) (Q:St->Hp->Prop),Inv X pins σ H s->Vals vs us->t vs σ H Q->
  wpAny (model X.prog X.w) X.A (assignInOrder ((assignEach ts X.env).map (·.2)) us) (λ_ s'=>∃σ' H',Inv X pins σ' H' s'/\Q σ' H') X.xe s
abbrev zu:=V->V->V->Hp->(Hp->Prop)->Prop
def CW(X:Cx)(t:zu):Prop:=
 ∀(pins:aZ) (s:Shared) (σ:St) (H:Hp) (o i v:V) (ov iv u:Value) (Q:Hp->Prop),Inv X pins σ H s->RelV o ov->RelV i iv->RelV v u->t o i v H Q->
  wpAny (model X.prog X.w) X.A (setItem ov iv u) (λ_ s'=>∃H',Inv X pins σ H' s'/\Q H') X.xe s
abbrev uM:=V->V->Hp->VK->Prop
def CV(X:Cx)(op:Operator)(t:uM):Prop:=
 ∀(pins:aZ) (s:Shared) (σ:St) (H:Hp) (x y:V) (v u:Value) (Q:VK),Inv X pins σ H s->RelV x v->RelV y u->t x y H Q->
  wpAny (model X.prog X.w) X.A (inplaceOp op v u) (EP X pins σ Q) X.xe s
section
variable{X:Cx}{pos:Pos}
noncomputable def pT(i:Nat):TG:=λv σ H Q=>Q (σ.set i (some v)) H
theorem HP{i:Nat}{x:Str}(a:X.N.Nodup)(hi:X.N[i]?=some x)(b:Loc X.env.scope x)(c:X.fn x=true\/X.env.scope.names.lookup x=some .local:=by first|exact .inl rfl|exact .inr rfl|assumption):PG X (.Name x pos) (pT i):=by
 intro pins s σ H v u Q I r h;exact wpAny_assign_Name (tN I a hi b r (λs' d=>⟨_,H,d,h⟩) c)
noncomputable def FY:ko:=λvs σ H Q=>vs=[]/\Q σ H
noncomputable def FW(t:TG)(u:ko):ko:=λvs σ H Q=>∃v r,vs=v::r/\t v σ H λσ' H'=>u r σ' H' Q
theorem oB:ki X [] FY:=by
 intro pins s σ H vs a Q I r h;obtain⟨e,h⟩:=h;subst e;cases r;exact assignInOrder_nil ⟨σ,H,I,h⟩
theorem gR{e:Expr}{es:List Expr}{t:TG}{u:ko}(h1:PG X e t)(h2:ki X es u)
  (b:(assignEach (e::es) X.env).map (·.2)=assign e X.env::(assignEach es X.env).map (·.2):=by rfl):ki X (e::es) (FW t u):=by
 intro pins s σ H vs j Q I r h;obtain⟨v,vr,c,h⟩:=h;subst c;cases r with
 |cons r d=>
  rw[b];refine assignInOrder_cons (aJ (h1 pins s σ H _ _ _ I r h) λ_ f ⟨a,H1,g,i⟩=>?_);exact h2 pins f a H1 _ _ Q g d i
noncomputable def FZ(K:Frag)(n:Nat)(t:ko):TG:=λv σ H Q=>∃a xs,v=.ref a/\bP K H a xs/\xs.length=n/\t xs σ H Q
theorem oA{es:List Expr}{k:Nat}{t:ko}{n:Nat}(hc:X.calm=true)(h:ki X es t)
  (g:(assignEach es X.env).length=n:=by rfl)(c:(assignEach es X.env).findIdx? (·.1)=none:=by rfl):PG X (.Tuple es k pos) (FZ X.K n t):=by
 intro pins s σ H v u Q I r d;obtain⟨a,xs,i,j,l,d⟩:=d;subst i;cases r;obtain⟨its,f,m,hz⟩:=I.tuple j;refine assign_Tuple_tuple (I.ok.hd hc) m (by simp[g,<-l,f.length]) c λh' p=>?_;have q:Inv X pins σ H {s with heap:=h'}:=I.kept (t':=s.toks) λb o e=>p b o (bB (aR e)) e;exact h pins _ σ H xs _ Q q (by simpa using f) d
noncomputable def PX(to ti:TE)(t:zu):TG:=λv σ H Q=>to σ H λo H1=>ti σ H1 λi H2=>t o i v H2 λH3=>Q σ H3
theorem UX{o i:Expr}{to ti:TE}{t:zu}(c:PE X o to)(hi:PE X i ti)(d:CW X t)
  (e:∀v,assign (.Subscript o i pos) X.env v=(do
   let a <-holding [v] (eval o X.env)
   let b <-holding [v,a] (eval i X.env)
   standAt pos
   holding [v,a,b] (setItem a b v)
   release [v,a,b] []):=by intro _;rfl):PG X (.Subscript o i pos) (PX to ti t):=by
 intro pins s σ H v u Q I r h
 rw[e]
 refine ah (fS (aJ (c pins s σ H _ I h) λa f ⟨x,H1,g,j,k⟩=> ?_))
 refine ah (fS (aJ (hi pins f σ H1 _ g k) λb l ⟨y,H2,m,n,p⟩=> ?_))
 refine ah (um (ah (fS (aJ (d pins l σ H2 x y v a b u _ m j n r p) λ_ A ⟨q,w,z⟩=> ?_))))
 exact wpAny_release ⟨σ,q,w,z⟩
def BK(te:TE)(g:TG):TS:=λD σ H=>te σ H λx H1=>g x σ H1 D.nx
theorem Vm{tg e:Expr}{te:TE}{g:TG}(a:PE X e te)(b:PG X tg g)(c:swapsWithSole [tg] e pos.line X.env=pure false:=by rfl)(d:swappedStores [tg] e X.env=pure none:=by rfl)
  (h1:(assignEach [tg] X.env).map (·.2)=[assign tg X.env]:=by rfl):PS X (.Assign [tg] e pos) (BK te g):=by
 intro pins s σ H D I h;refine wpAny_Assign_stores (aJ (a pins s σ H _ I h) λv f ⟨x,H1,i,j,k⟩=>?_) c d;rw[h1];exact aJ (b pins f σ H1 x v _ i j k) λ_ l q=>q
theorem Vv{i:Nat}{x:Str}{e:Expr}{te:TE}{pos':Pos}(a:X.N.Nodup)(hi:X.N[i]?=some x)(b:Loc X.env.scope x)(c:PE X e te)(d:swapsWith e (some (.Name x pos')) pos.line X.env=pure false:=by rfl)(f:X.fn x=true\/X.env.scope.names.lookup x=some .local:=by first|exact .inl rfl|exact .inr rfl|assumption):
  PS X (.Assign [.Name x pos'] e pos) (BK te (pT i)):=by
 intro pins s σ H D I h;refine wpAny_Assign_Name (aJ (c pins s σ H _ I h) λv m ⟨y,H1,g,j,k⟩=>?_) d;exact tN g a hi b j (λn l=>⟨_,H1,l,k⟩) f
def Yr(i j:Nat)(ta:TA):TS:=λD σ H=>ta σ H λvs H1=>∃v w,vs=[v,w]/\D.nx ((σ.set i (some v)).set j (some w)) H1
theorem Vs{i j:Nat}{x y:Str}{a b:Expr}{ta:TA}{px py pt:Pos}{kt k2 c}(hc:X.calm=true)(r:X.N.Nodup)(hi:X.N[i]? =some x)(B:X.N[j]? =some y)(k:i≠j)
  (t:X.env.scope.names.lookup x=some .local)(u:X.env.scope.names.lookup y=some .local)(C:PA X [a,b] ta)
  (E:swappedStores [.Tuple [.Name x px,.Name y py] kt pt] (.Tuple [a,b] k2 c) X.env=pure (some [x,y]))
  (F:swapsWithSole [.Tuple [.Name x px,.Name y py] kt pt] (.Tuple [a,b] k2 c) pos.line X.env=pure false:=by rfl):
  PS X (.Assign [.Tuple [.Name x px,.Name y py] kt pt] (.Tuple [a,b] k2 c) pos) (Yr i j ta):=by
 intro pins s σ H D I h
 rw[exec_Assign_arm]
 refine ah (um ?_)
 rw[F]
 refine ah (aD ?_)
 rw[ao δ]
 refine ah (Tuple_ (aJ (C _ pins s σ H _ I h) λG d ⟨vs,H1,J,K,l⟩=> ?_))
 obtain⟨v,w,L,l⟩:=l
 subst L
 obtain⟨f,g,rfl,M,m⟩:∃f g,G=[f,g]/\RelV v f/\RelV w g:=by
  cases K with
  |cons p q=>
   cases q with
   |cons O P=>
    cases P
    exact⟨_,_,rfl,p,O⟩
 refine gE ?_ (by show 2<=sizeLine;decide)
 have Q:Inv X pins σ H1 {d with heap:=d.heap.push {cls:= .type "tuple",data:= .seq [f,g].toArray}}:=J.kept (t':=d.toks) λb o e=>bu _ e
 rw[E]
 refine ah (aD ?_)
 show wpAny (model X.prog X.w) X.A (do rule "assign.swapped-stores";let items <-unpackItems (.ref d.heap.objs.size) 2 none;assignInOrder [λv=>bindName X.env y v,λv=>bindName X.env x v] items.reverse;pure Flow.next) _ _ _
 refine ah (jZ (ah (unpackItems_tuple (items:= #[f,g]) (I.ok.hd hc) (IsTup.new d.heap _) λh' n=> ?_)))
 have R:=Q.kept (h':=h') (t':=d.toks) λb o e=>n b o (bB (aR e)) e
 show wpAny _ _ (assignInOrder [λv=>bindName X.env y v,λv=>bindName X.env x v] [g,f]>>=λ_=>pure Flow.next) _ _ _
 refine ah (assignInOrder_cons (wpAny_bindName (tN R r B (.inl u) m (λT S=> ?_) (.inr u))))
 refine assignInOrder_cons (wpAny_bindName (tN S r hi (.inl t) M (λU z=>assignInOrder_nil (aD ?_)) (.inr t)))
 rw[List.set_comm _ _ (Ne.symm k)] at z
 exact⟨_,H1,z,l⟩
def X_(i:Nat)(te:TE)(ti:uM):TS:=λD σ H=>∃x,σ[i]?=some (some x)/\te σ H λy H1=>ti x y H1 λz H2=>D.nx (σ.set i (some z)) H2
theorem Vn{i:Nat}{x:Str}{e:Expr}{te:TE}{op:Operator}{ti:uM}{pos':Pos}(j:X.N.Nodup)(hi:X.N[i]?=some x)(f:Loc X.env.scope x)(n:PE X e te)(o:CV X op ti)(p:X.fn x=true\/X.env.scope.names.lookup x=some .local:=by first|exact .inl rfl|exact .inr rfl|assumption):
  PS X (.AugAssign (.Name x pos') op e pos) (X_ i te ti):=by
 intro pins s σ H D I h;obtain⟨v,q,h⟩:=h;obtain⟨m,t,B⟩:=I.loc;have g:pC X.env.scope x:=by rcases f with k|k;exact .inl k;exact .inr (.inl k)
 obtain⟨u,r,l⟩:=B i x v hi q g;refine wpAny_AugAssign_Name ?_;have go:wpAny (model X.prog X.w) X.A (eval e X.env) (λw b=>wpAny (model X.prog X.w) X.A (inplaceOp op u w) (λr d=>wpAny (model X.prog X.w) X.A (storeName X.env x r) (λ_=>SP X pins D .next) X.xe d) X.xe b) X.xe s:=by
  refine aJ (n pins s σ H _ I h) λw C ⟨y,H1,E,F,G⟩=>?_;refine aJ (o pins C σ H1 v y u w _ E r F G) λz P ⟨Q,H2,J,K,L⟩=>?_;exact tN J j hi f K (λR M=>⟨_,H2,M,L⟩) p
 rcases l with⟨hk,O⟩|⟨hk,c,hc,a⟩
 .exact wpAny_loadName_local I.ok.kind hk t O go
 .rcases hk with hk|hk
  .exact wpAny_loadName_cell I.ok.kind hk hc a go
  .rcases f with k|k
   .have:X.env.scope.names.lookup x=some .free:=hk
    rw[k] at this;cases this
   .have:X.env.scope.names.lookup x=some .free:=hk
    rw[k] at this;cases this
noncomputable def Rf(f:Int->Int->Int):uM:=λx y H Q=>∃i j,x=.int i/\y=.int j/\Q (.int (f i j)) H
theorem Rg:CV X .Add (Rf λi j=>i+j):=by
 intro pins s σ H x y v u Q I a b h;obtain⟨i,j,c,d,q⟩:=h;subst c;subst d;obtain⟨t,rfl⟩:=a;obtain⟨t',rfl⟩:=b;exact iadd_int ⟨.int _,H,I.tok _,⟨_,rfl⟩,q⟩
end
section
variable{X:Cx}{pos:Pos}
def YD(c:TT)(tb:TS):TS:=λD σ H=>∃W:Nat->St->Hp->Prop,(∃m,W m σ H)/\∀m σ H,W m σ H->
 c σ H λb H1=>if b=true then ∃N:St->Hp->Prop,(∀σ' H',N σ' H'->∃m',m'<m/\W m' σ' H')/\tb {D with nx:=N,ct:=N,bk:=D.nx} σ H1 else D.nx σ H1
theorem Vw{c:Expr}{body:List Stmt}{tc:TT}{tb:TS}(o:PassesOwn (model X.prog X.w) X.A X.env X.xe)(hc:PT X c tc)(r:dU X body tb):PS X (.While c body [] pos) (YD tc tb):=by
 intro pins s σ H D I h;obtain⟨W,⟨m0,t⟩,turn⟩:=h;refine wpAny_While (codeAny_whileLoop (λn s'=>∃σ' H',Inv X pins σ' H' s'/\W n σ' H') ?_ m0 ⟨σ,H,I,t⟩);rintro n u ⟨d,H1,x,y⟩;refine oU o (aJ (hc pins u d H1 _ x (turn n d H1 y)) λb z ⟨H2,p,g⟩=>?_);cases b with
 |true=>
  obtain⟨N,q,g⟩:=g;rw[aA rfl];refine oU o (aJ (r pins z d H2 _ p g) λf B i=>?_);cases f with
  |next=>
   obtain⟨a,e,j,n3⟩:=i;obtain⟨k,l,m⟩:=q a e n3;exact⟨k,l,a,e,j,m⟩
  |cont=>
   obtain⟨a,e,j,n3⟩:=i;obtain⟨k,l,m⟩:=q a e n3;exact⟨k,l,a,e,j,m⟩
  |brk=>exact i
  |ret v=>exact i
 |false=>
  rw[ao bU];exact yt ⟨d,H2,p,g⟩
end
structure It where
 go:Nat->Hp->Prop
 x_:Nat->Hp->V->Hp->Prop
 stop:Nat->Hp->Prop
def gY(X:Cx)(pins:aZ)(H:Hp)(b:Addr):Prop:=
 H b=none/\b≠X.env.locals/\b∉X.fs/\(b∈X.ex\/X.s₀.heap.objs.size<=b)/\(∀x c,X.env.cells.lookup x=some c->c≠b)/\∀p∈X.pn++pins,p.1≠b
theorem Inv.mP{X:Cx}{pins:aZ}{σ:St}{H H':Hp}{s:Shared}{b:Addr}(I:Inv X pins σ H s)(a:s.heap.objs.size<=b)(d:H' b=none):gY X pins H' b:=by
 refine⟨d,kT (cO I.lt a),I.Tn a,.inr (cC I.sz a),λx c e z=>?_,λp f z=>?_⟩
 .obtain⟨v,q⟩:=I.cell x c e
  exact absurd (cO q.lt (by rw[z];exact a)) (gp _)
 .exact absurd (cO (aR (I.pin p f).1) (by rw[z];exact a)) (gp _)
structure Turn(P:Program)(w:World)(K:Frag)(tg:Expr)(J:It)(fp:List Addr)(it:Addr)(tn:Nat->Heap->Prop):Prop where
 mem:it∈fp
 obj:∀i h,tn i h->∀b∈fp,∃o,h.get? b=some o/\∀v,o.data≠ .cell v
 keep:∀i h h',tn i h->(∀b∈fp,∀o,h.get? b=some o->h'.get? b=some o)->tn i h'
 item:∀(X:Cx),X.prog=P->X.w=w->X.K=K->X.calm=true->∀(i:Nat) (pins:aZ) (s:Shared) (σ:St) (H:Hp) (E:aU),Inv X pins σ H s->(∀b∈fp,gY X pins H b)->tn i s.heap->J.go i H->
  wpAny (model P w) X.A (pyNext (.ref it)) (λr s1=>∃u,r=some u/\
   wpAny (model P w) X.A (letOwnedTupleGo tg (.ref it) u) (λ_ s2=>∃x H',Inv X pins σ H' s2/\RelV x u/\J.x_ i H x H'/\tn (i+1) s2.heap/\∀b∈fp,H' b=none) E s1) E s
 done:∀(X:Cx),X.prog=P->X.w=w->X.K=K->X.calm=true->∀(i:Nat) (pins:aZ) (s:Shared) (σ:St) (H:Hp) (E:aU),Inv X pins σ H s->(∀b∈fp,gY X pins H b)->tn i s.heap->J.stop i H->
  wpAny (model P w) X.A (pyNext (.ref it)) (λr s1=>r=none/\Inv X pins σ H s1) E s
 self:∀(A:Around) (i:Nat) (s:Shared) (Q:aU) (E:aU),tn i s.heap->Q (.ref it) s->wpAny (model P w) A (pyIter (.ref it)) Q E s
abbrev TI:=St->Hp->(It->Hp->Prop)->Prop
def yY(X:Cx)(pins:aZ)(σ:St)(tg:Expr)(R:It->Hp->Prop)(itv:Value)(s2:Shared):Prop:=
 ∃(it:Addr) (fp:List Addr) (tn:Nat->Heap->Prop) (J:It) (H':Hp),itv=.ref it/\Inv X pins σ H' s2/\Turn X.prog X.w X.K tg J fp it tn/\tn 0 s2.heap/\(∀b∈fp,gY X pins H' b)/\R J H'
def PI(X:Cx)(tg iter:Expr)(wi:TI):Prop:=
 ∀(pins:aZ) (s:Shared) (σ:St) (H:Hp) (R:It->Hp->Prop),Inv X pins σ H s->wi σ H R->
  wpAny (model X.prog X.w) X.A (eval iter X.env) (λv s1=>wpAny (model X.prog X.w) X.A (pyIter v) (yY X pins σ tg R) X.xe s1) X.xe s
theorem rY{M:Model}{A:Around}{E:aU}{s:Shared}{tg:Expr}{it:Addr}{u:Value}{o:Obj}{n:String}{vs:Array Value}{Q:Unit->Shared->Prop}(b:s.heap.get? it=some o)(hc:o.cls=.type n)(hd:o.data=.fields vs)
  (c:["enumerate","zip","dict_itemiterator","dict_reverseitemiterator","odict_iterator","itertools.zip_longest","itertools.pairwise"].contains n=false)(a:Q () s):wpAny M A (letOwnedTupleGo tg (.ref it) u) Q E s:=by
 unfold letOwnedTupleGo;cases tg<;>first
  |exact aD a
  |(cases u<;>first
    |exact aD a
    |(refine ah (wpAny_load b ?_)
      rw[hc,hd];show wpAny M A (if (["enumerate","zip","dict_itemiterator","dict_reverseitemiterator","odict_iterator","itertools.zip_longest","itertools.pairwise"].contains n&&vs[0]? ==some (rawInt _))=true then _ else _) Q E s;rw[ao (by intro h;rw[c,Bool.false_and] at h;cases h)];exact aD a))
noncomputable def uE(K:Frag)(a:Addr):It:=
 ⟨λi H=>∃xs x,aV K H a xs/\xs[i]?=some x,λi H x H'=>H'=H/\∀xs,aV K H a xs->xs[i]?=some x,λi H=>∃xs,aV K H a xs/\xs.length<=i⟩
noncomputable def yT(K:Frag)(a:Addr):It:=
 ⟨λi H=>∃xs x,bP K H a xs/\xs[i]?=some x,λi H x H'=>H'=H/\∀xs,bP K H a xs->xs[i]?=some x,λi H=>∃xs,bP K H a xs/\xs.length<=i⟩
noncomputable def uF(lo:Int)(n:Nat):It:=⟨λi _=>i<n,λi H x H'=>H'=H/\x=.int (lo+i),λi _=>n<=i⟩
theorem YR{P:Program}{w:World}{K:Frag}{tg:Expr}(a it:Addr):Turn P w K tg (uE K a) [it] it (λi h=>h.IsListIter it a i) where
 mem:=θ
 obj:=λi h st b f=>by
  have e:b=it:=by simpa using f
  subst e
  obtain⟨o,e,c,d⟩:=st
  exact⟨o,e,λv z=>by rw[d] at z;cases z⟩
 keep:=λi h h' st k=>st.at λo e=>k it θ o e
 item:=by
  intro X m n q hc i pins s σ H E I j st r
  subst m n q
  obtain⟨xs,x,l,t⟩:=r
  obtain⟨its,y,p,hz⟩:=I.list l
  obtain⟨u,C,D⟩:=y.get t
  obtain⟨f0,f1,f2,A,f4,B⟩:=j it θ
  refine wpAny_pyNext_list_item st p.isList (x:=u) (by simpa using C) λh' g F=> ?_
  have G:Inv X pins σ H {s with heap:=h'}:=I.turned (t':=s.toks) (λb o f e=>(F.2 b f).trans e) f0 f1 A f4 B
  obtain⟨o,e,c,d⟩:=id g
  exact⟨u,rfl,rY (s:={s with heap:=h'}) e c d δ ⟨x,H,G,D,⟨rfl,λys J=>by rw[I.AG J l];exact t⟩,g,λb f=>(j b f).1⟩⟩
 done:=by
  intro X m n q hc i pins s σ H E I j st r
  subst m n q
  obtain⟨xs,l,t⟩:=r
  obtain⟨its,y,p,hz⟩:=I.list l
  obtain⟨f0,f1,f2,A,f4,B⟩:=j it θ
  have M:=y.length
  exact wpAny_pyNext_list_end (I.ok.hd hc) st p.isList (by simp;omega) λh' L=>⟨rfl,I.turned (t':=s.toks) (λb o f e=>L b o f e) f0 f1 A f4 B⟩
 self:=λ_ _ _ _ _ st h=>wpAny_pyIter_listiter st h
theorem YV{P:Program}{w:World}{K:Frag}{tg:Expr}(a it:Addr):Turn P w K tg (yT K a) [it] it (λi h=>h.IsTupleIter it a i) where
 mem:=θ
 obj:=λi h st b f=>by
  have e:b=it:=by simpa using f
  subst e
  obtain⟨o,e,c,d⟩:=st
  exact⟨o,e,λv z=>by rw[d] at z;cases z⟩
 keep:=λi h h' st k=>st.at λo e=>k it θ o e
 item:=by
  intro X m n q hc i pins s σ H E I j st r
  subst m n q
  obtain⟨xs,x,l,t⟩:=r
  obtain⟨its,y,p,hz⟩:=I.tuple l
  obtain⟨u,C,D⟩:=y.get t
  obtain⟨f0,f1,f2,A,f4,B⟩:=j it θ
  refine wpAny_pyNext_tuple_item st (show s.heap.IsTuple a its.toArray from p) (x:=u) (by simpa using C) λh' g F=> ?_
  have G:Inv X pins σ H {s with heap:=h'}:=I.turned (t':=s.toks) (λb o f e=>(F.2 b f).trans e) f0 f1 A f4 B
  obtain⟨o,e,c,d⟩:=id g
  exact⟨u,rfl,rY (s:={s with heap:=h'}) e c d δ ⟨x,H,G,D,⟨rfl,λys J=>by rw[I.YL J l];exact t⟩,g,λb f=>(j b f).1⟩⟩
 done:=by
  intro X m n q hc i pins s σ H E I j st r
  subst m n q
  obtain⟨xs,l,t⟩:=r
  obtain⟨its,y,p,hz⟩:=I.tuple l
  obtain⟨f0,f1,f2,A,f4,B⟩:=j it θ
  have M:=y.length
  exact wpAny_pyNext_tuple_end (I.ok.hd hc) st (show s.heap.IsTuple a its.toArray from p) (by simp;omega) λh' L=>⟨rfl,I.turned (t':=s.toks) (λb o f e=>L b o f e) f0 f1 A f4 B⟩
 self:=λ_ _ _ _ _ st h=>wpAny_pyIter_tupleiter st h
theorem YS{P:Program}{w:World}{K:Frag}{tg:Expr}(it:Addr)(lo:Int)(n:Nat):Turn P w K tg (uF lo n) [it] it (λi h=>IsRangeIter h it (lo+(i:Nat)*1) ((n:Int) - (i:Nat)) 1) where
 mem:=θ
 obj:=λi h st b a=>by
  have e:b=it:=by simpa using a
  subst e
  exact⟨_,st,λv z=>by
   have r:Data.fields _=Data.cell v:=z
   cases r⟩
 keep:=λi h h' st k=>k it θ _ st
 item:=by
  intro X f g j hc i pins s σ H E I d st l
  subst f g j
  obtain⟨f0,f1,f2,m,f4,p⟩:=d it θ
  have W:=Walks.range (prog:=X.prog) (w:=X.w) (I.ok.hd hc) it lo 1 n
  refine W.item i s _ _ l st λv h' q u c x=> ?_
  obtain⟨t,rfl⟩:=u
  have y:Inv X pins σ H {s with heap:=h',toks:=q}:=I.turned (λb o a e=>x b o (by simpa using a) e) f0 f1 m f4 p
  refine⟨_,rfl,rY (s:={s with heap:=h',toks:=q}) (n:="range_iterator") c rfl rfl δ ⟨.int (lo+i),H,y,⟨t,?_⟩,⟨rfl,rfl⟩,c,λb a=>(d b a).1⟩⟩
  rw[Int.mul_one]
 done:=by
  intro X f g j hc i pins s σ H E I d st l
  subst f g j
  obtain⟨f0,f1,f2,m,f4,p⟩:=d it θ
  exact wpAny_pyNext_range_end (I.ok.hd hc) st (by have:n<=i:=l;omega) λh' A=>⟨rfl,I.turned (t':=s.toks) (λb o a e=>A b o a e) f0 f1 m f4 p⟩
 self:=λ_ _ _ _ _ st h=>wpAny_pyIter_rangeiter st h
section
variable{X:Cx}{tg:Expr}
theorem VQ{pins:aZ}{σ:St}{H:Hp}{s:Shared}{R:It->Hp->Prop}{E:aU}{lo hi:Int}{t u v:Tok}{a:Nat}(I:Inv X pins σ H s)(h1: -(2 ^ 62)<=lo)(h2:lo<2 ^ 62)(d: -(2 ^ 62)<=hi)(f:hi<2 ^ 62)
  (q:R (uF lo (hi - lo).toNat) H):wpAny (model X.prog X.w) X.A (pyIter (.ref s.heap.objs.size)) (yY X pins σ tg R) E {s with heap:=s.heap.push {cls:=.type "range",data:=.fields #[.int lo t,.int hi u,.int 1 v]},toks:=a}:=by
 refine wpAny_pyIter_range (IsRange.new ..) (small_one h1 h2 d f) ?_;have c:Inv X pins σ H {s with heap:=s.heap.push {cls:=.type "range",data:=.fields #[.int lo t,.int hi u,.int 1 v]},toks:=a}:=I.kept λb o e=>bu _ e;refine⟨(s.heap.push {cls:=.type "range",data:=.fields #[.int lo t,.int hi u,.int 1 v]}).objs.size,[(s.heap.push {cls:=.type "range",data:=.fields #[.int lo t,.int hi u,.int 1 v]}).objs.size],_,_,H,rfl,
  c.kept (t':=a) λb o e=>bu _ e,YS _ lo (hi - lo).toNat,?_,λb g=>?_,q⟩
 .have h:lo+((0:Nat):Int)*1=lo:=θ
  have i:(((hi - lo).toNat:Nat):Int) - ((0:Nat):Int)=Builtin.Range.rangeSize lo hi 1:=by rw[rangeSize_one];split<;>omega
  show IsRangeIter _ _ (lo+((0:Nat):Int)*1) ((((hi - lo).toNat:Nat):Int) - ((0:Nat):Int)) 1;rw[h,i];exact cu _ rfl
 .have e:b=(s.heap.push {cls:=.type "range",data:=.fields #[.int lo t,.int hi u,.int 1 v]}).objs.size:=by simpa using g
  subst e;exact c.mP (aF _) (c.hok.fresh (aF _))
noncomputable def Q2(ta:TA):TI:=λσ H R=>ta σ H λvs H1=>∃j:Int,vs=[.int j]/\-(2 ^ 62)<=j/\j<2 ^ 62/\R (uF 0 j.toNat) H1
theorem U0{a:Expr}{ta:TA}{p pos:Pos}(c:Gl X "range")(d:X.mg "range"=none)(f:PA X [a] ta)(g:starEach [a] X.env=[(false,eval a X.env)]:=by rfl):PI X tg (.Call (.Name "range" p) [a] [] pos) (Q2 ta):=by
 intro pins s σ H R I h;refine Call_ (jv I c d boot_range (ng (aJ (f pos pins s σ H _ I h) λn o ⟨vs,H1,i,k,b⟩=>?_) g rfl));obtain⟨j,e,b,l,q⟩:=b;subst e;cases k with
 |cons r m=>
  cases m;obtain⟨t,rfl⟩:=r;exact call_range_1 (VQ i ω ω b l (by simpa using q))
def Yi(wi:TI)(g:TG)(tb:TS):TS:=λD σ H=>wi σ H λJ H1=>∃W:Nat->Nat->St->Hp->Prop,(∃m,W 0 m σ H1)/\∀i m σ H,W i m σ H->
 (J.stop i H/\D.nx σ H)\/(J.go i H/\∃N:St->Hp->Prop,(∀σ' H',N σ' H'->∃m',m'<m/\W (i+1) m' σ' H')/\∀x H',J.x_ i H x H'->g x σ H' λσ2 H2=>tb {D with nx:=N,ct:=N,bk:=D.nx} σ2 H2)
noncomputable def sW(fp:List Addr)(h:Heap):aZ:=fp.filterMap λb=>(h.get? b).map λo=>(b,o)
theorem vY{fp:List Addr}{h:Heap}{b:Addr}{o:Obj}(a:b∈fp)(e:h.get? b=some o):(b,o)∈sW fp h:=qx.mpr ⟨b,a,by rw[e];rfl⟩
theorem TQ{fp:List Addr}{h:Heap}{p:Addr×Obj}(a:p∈sW fp h):p.1∈fp/\h.get? p.1=some p.2:=by
 obtain⟨b,c,e⟩:=qx.mp a;cases q:h.get? b with
 |none=>rw[q] at e;cases e
 |some o=>
  rw[q] at e;have d:(b,o)=p:=Option.some.inj e;subst d;exact⟨c,q⟩
theorem Inv.pinned{pins:aZ}{σ:St}{H:Hp}{s:Shared}{fp:List Addr}(I:Inv X pins σ H s)(f:∀b∈fp,gY X pins H b)(g:∀b∈fp,∃o,s.heap.get? b=some o/\∀v,o.data≠ .cell v):Inv X (pins++sW fp s.heap) σ H s:=
 I.HR λp h=>(bX.mp h).elim (λz=>I.pin p (je _ z)) λz=>by
  obtain⟨a,e⟩:=TQ z;obtain⟨f0,f1,f2,_⟩:=f p.1 a;obtain⟨o,c,d⟩:=g p.1 a;rw[e] at c;cases c;exact⟨e,f0,f1,f2,d⟩
theorem Inv.tS{pins pl:aZ}{σ:St}{H:Hp}{s:Shared}(I:Inv X (pins++pl) σ H s):Inv X pins σ H s:=I.HR λp a=>I.pin p (je _ (oK _ a))
theorem Vq{iter:Expr}{body:List Stmt}{wi:TI}{g:TG}{tb:TS}{pos:Pos}(y:PassesOwn (model X.prog X.w) X.A X.env X.xe)(hc:X.calm=true)(hi:PI X tg iter wi)(S:PG X tg g)(c:dU X body tb)
  (U:∀x,foldedSetIterable iter X.env x=pure x:=by intro _;rfl):PS X (.For tg iter body [] pos) (Yi wi g tb):=by
 intro pins s σ H D I h;refine wpAny_For (aJ (hi pins s σ H _ I h) λv s1 h1=>aJ h1 λV s2 h2=>?_) U;obtain⟨it,fp,O,J,H2,e,Y,T,E,f2,W,⟨m0,Z⟩,turn⟩:=h2;subst e;have j:∀{H':Hp},(∀b∈fp,H' b=none)->∀b∈fp,gY X pins H' b:=λhn b c=>⟨hn b c,(f2 b c).2⟩;refine codeAny_forLoop_any (λn s'=>∃i σ' H',Inv X pins σ' H' s'/\O i s'.heap/\(∀b∈fp,H' b=none)/\W i n σ' H') ?_ m0 ⟨0,σ,H2,Y,E,λb c=>(f2 b c).1,Z⟩;rintro n P ⟨i,k,C,Q,z,B,w3⟩;rcases turn i n k C w3 with⟨stop,qn⟩|⟨go,N,hN,step⟩
 .refine oU y (aJ (T.done X rfl rfl rfl hc i pins P k C X.xe Q (j B) z stop) λr s4 ⟨F,I4⟩=>?_)
  subst F;exact yt ⟨k,C,I4,qn⟩
 .refine oU y (aJ (T.item X rfl rfl rfl hc i pins P k C X.xe Q (j B) z go) λr s4 ⟨u,F,h4⟩=>?_)
  subst F;refine oU y (aJ h4 λ_ s5 ⟨x,R,I5,r5,y5,t,G⟩=>?_);have K:=I5.pinned (j G) (T.obj _ _ t);refine oU y (aJ (S _ s5 k R x u _ K r5 (step x R y5)) λ_ s6 ⟨L,H6,I6,q6⟩=>?_);refine oU y (aJ (c _ s6 L H6 _ I6 q6) λf M q=>?_);have again:∀{a:St} {l:Hp},Inv X (pins++sW fp s5.heap) a l M->N a l->∃m,m<n/\∃i σ' H',Inv X pins σ' H' M/\O i M.heap/\(∀b∈fp,H' b=none)/\W i m σ' H':=λ {a l} p n7=>by
   obtain⟨m',hm,w7⟩:=hN a l n7;refine⟨m',hm,i+1,a,l,p.tS,T.keep _ _ _ t λb c o e=>(p.pin (b,o) (je _ (je _ (vY c e)))).1,λb c=>?_,w7⟩;obtain⟨o,e,d⟩:=T.obj _ _ t b c;exact(p.pin (b,o) (je _ (je _ (vY c e)))).2.1
  cases f with
  |next=>obtain⟨a,l,p,n7⟩:=q;exact again p n7
  |cont=>obtain⟨a,l,p,n7⟩:=q;exact again p n7
  |brk=>obtain⟨a,l,p,q⟩:=q;exact⟨a,l,p.tS,q⟩
  |ret v=>obtain⟨x7,a,l,p,r7,q⟩:=q;exact⟨x7,a,l,p.tS,r7,q⟩
end
abbrev R2:=V->V->Hp->VK->Prop
def bL(X:Cx)(f:Value->Value->Sem Value)(r:R2):Prop:=
 ∀(pins:aZ) (s:Shared) (σ:St) (H:Hp) (x y:V) (v u:Value) (Q:VK),Inv X pins σ H s->RelV x v->RelV y u->r x y H Q->
  wpAny (model X.prog X.w) X.A (f v u) (EP X pins σ Q) X.xe s
def zv(X:Cx)(f:Value->Sem Value)(r:V->Hp->VK->Prop):Prop:=
 ∀(pins:aZ) (s:Shared) (σ:St) (H:Hp) (x:V) (v:Value) (Q:VK),Inv X pins σ H s->RelV x v->r x H Q->
  wpAny (model X.prog X.w) X.A (f v) (EP X pins σ Q) X.xe s
def eN(X:Cx)(f:Value)(r:List V->Hp->VK->Prop):Prop:=
 ∀(pins:aZ) (s:Shared) (σ:St) (H:Hp) (xs:List V) (us:List Value) (Q:VK),Inv X pins σ H s->Vals xs us->r xs H Q->
  wpAny (model X.prog X.w) X.A (call f us) (EP X pins σ Q) X.xe s
def tO(r:R2)(ta tb:TE):TE:=λσ H Q=>ta σ H λx H1=>tb σ H1 λy H2=>r x y H2 Q
def YB(r:V->Hp->VK->Prop)(ta:TE):TE:=λσ H Q=>ta σ H λx H1=>r x H1 Q
noncomputable def rI(C:Int->Int->Prop)(g:Int->Int->V):R2:=λx y H Q=>∃i j,x=.int i/\y=.int j/\C i j/\Q (g i j) H
noncomputable def jy(g:Int->Int->V):R2:=λx y H Q=>∃i j,x=.int i/\y=.int j/\Q (g i j) H
noncomputable def rU(g:Int->V):V->Hp->VK->Prop:=λx H Q=>∃i,x=.int i/\Q (g i) H
section
variable{X:Cx}{a b c:Expr}{ta tb tc:TE}{pos:Pos}
theorem zB(g:PE X a ta)(i:PE X b tb){pins:aZ}{s:Shared}{σ:St}{H:Hp}{R:V->V->Hp->Prop}(I:Inv X pins σ H s)
  (h:ta σ H λx H1=>tb σ H1 λy H2=>R x y H2){Q:aU}{f:Value->Value->Sem Value}
  (j:∀v u e x y H2,Inv X pins σ H2 e->RelV x v->RelV y u->R x y H2->wpAny (model X.prog X.w) X.A (f v u) Q X.xe e):
  wpAny (model X.prog X.w) X.A (eval a X.env) (λv c=>wpAny (model X.prog X.w) X.A (eval b X.env) (λu d=>wpAny (model X.prog X.w) X.A (f v u) Q X.xe d) X.xe c) X.xe s:=by
 refine aJ (g pins s σ H _ I h) λv k ⟨x,H1,l,m,n⟩=> ?_
 refine aJ (i pins k σ H1 _ l n) λu e ⟨y,H2,o,p,q⟩=> ?_
 exact j v u e x y H2 o m p q
theorem UL{op:Operator}{r:R2}(c:bL X (binaryOp op) r)(d:PE X a ta)(e:PE X b tb):PE X (.BinOp a op b pos) (tO r ta tb):=by
 intro pins s σ H Q I h;exact wpAny_BinOp (zB d e I h λv u f x y H2 g i j q=>c pins f σ H2 x y v u Q g i j q)
theorem US{op:UnaryOp}{r:V->Hp->VK->Prop}(b:zv X (unaryOp op) r)(c:PE X a ta):PE X (.UnaryOp op a pos) (YB r ta):=by
 intro pins s σ H Q I h;exact UnaryOp_ (aJ (c pins s σ H _ I h) λv d ⟨x,H1,e,f,g⟩=>b pins d σ H1 x v Q e f g)
theorem wj{f:Value->Value->Sem Value}{C:Int->Int->Prop}{g:Int->Int->Int}
  (rule:∀(i j:Int) (t u:Tok) (s:Shared) (Q:aU) (E:aU),C i j->Q (.int (g i j) s.toks) {s with toks:=s.toks+1}->wpAny (model X.prog X.w) X.A (f (.int i t) (.int j u)) Q E s):
  bL X f (rI C λi j=>.int (g i j)):=by
 intro pins s σ H x y v u Q I a b h;obtain⟨i,j,rfl,rfl,hc,q⟩:=h;obtain⟨t,rfl⟩:=a;obtain⟨t',rfl⟩:=b;exact rule i j t t' s _ _ hc ⟨.int (g i j),H,I.tok _,⟨_,rfl⟩,q⟩
theorem HD{f:Value->Value->Sem Value}{g:Int->Int->Int}
  (rule:∀(i j:Int) (t u:Tok) (s:Shared) (Q:aU) (E:aU),Q (.int (g i j) s.toks) {s with toks:=s.toks+1}->wpAny (model X.prog X.w) X.A (f (.int i t) (.int j u)) Q E s):
  bL X f (jy λi j=>.int (g i j)):=by
 intro pins s σ H x y v u Q I a b h;obtain⟨i,j,rfl,rfl,q⟩:=h;obtain⟨t,rfl⟩:=a;obtain⟨t',rfl⟩:=b;exact rule i j t t' s _ _ ⟨.int (g i j),H,I.tok _,⟨_,rfl⟩,q⟩
theorem AW{f:Value->Value->Sem Value}{g:Int->Int->Bool}
  (rule:∀(i j:Int) (t u:Tok) (s:Shared) (Q:aU) (E:aU),Q (.bool (g i j)) s->wpAny (model X.prog X.w) X.A (f (.int i t) (.int j u)) Q E s):
  bL X f (jy λi j=>.bl (g i j)):=by
 intro pins s σ H x y v u Q I a b h;obtain⟨i,j,rfl,rfl,q⟩:=h;obtain⟨t,rfl⟩:=a;obtain⟨t',rfl⟩:=b;exact rule i j t t' s _ _ ⟨.bl (g i j),H,I,rfl,q⟩
def CD(i j:Int):Prop:=0<=j/\j<=1000000/\i.natAbs<2 ^ 64
def qT(i j:Int):Prop:=(-(2 ^ 64)<i/\i<2 ^ 64)\/(-(2 ^ 64)<j/\j<2 ^ 64)
theorem qT.ok{i j:Int}(h:qT i j):IntMulOk i j:=by
 rcases h with⟨h1,h2⟩|⟨h1,h2⟩
 .exact .of_left (intBits_le_64 h1 h2)
 .exact .of_right (intBits_le_64 h1 h2)
theorem TU:bL X (binaryOp .Add) (jy λi j=>.int (i+j)):=HD λ_ _ _ _ _ _ _ q=>add_int q
theorem Uj:bL X (binaryOp .Sub) (jy λi j=>.int (i - j)):=HD λ_ _ _ _ _ _ _ q=>sub_int q
theorem Uc:bL X (binaryOp .Mult) (rI qT λi j=>.int (i*j)):=wj λ_ _ _ _ _ _ _ hc q=>mul_int q hc.ok
theorem Ub:bL X (binaryOp .Mod) (rI (λ_ j=>0<j) λi j=>.int (i%j)):=wj λi j _ _ _ _ _ hc q=>by
 have h1:(0:Int)<j:=hc;exact mod_int' ω (by rw[Int.fmod_eq_emod_of_nonneg i ω];exact q)
theorem Ui:bL X (binaryOp .Pow) (rI CD λi j=>.int (i ^ j.toNat)):=wj λ_ _ _ _ _ _ _ hc q=>pow_int_small hc.1 hc.2.1 hc.2.2 q
theorem YZ{f:Value->Sem Value}{g:Int->Int}
  (rule:∀(i:Int) (t:Tok) (s:Shared) (Q:aU) (E:aU),Q (.int (g i) s.toks) {s with toks:=s.toks+1}->wpAny (model X.prog X.w) X.A (f (.int i t)) Q E s):
  zv X f (rU λi=>.int (g i)):=by
 intro pins s σ H x v Q I a h;obtain⟨i,rfl,q⟩:=h;obtain⟨t,rfl⟩:=a;exact rule i t s _ _ ⟨.int (g i),H,I.tok _,⟨_,rfl⟩,q⟩
theorem Y0:zv X (unaryOp .USub) (rU λi=>.int (-i)):=YZ λ_ _ _ _ _ q=>neg_int q
end
noncomputable def J1:V->V->Bool
 |.aG,.aG=>true|.aG,.int _=>true|.int _,.aG=>true|.aG,.bl _=>true|.bl _,.aG=>true|.aG,.str _=>true|.str _,.aG=>true
 |.int _,.int _=>true|.bl _,.bl _=>true|.str _,.str _=>true|.jN _,.jN _=>true
 |.int _,.str _=>true|.str _,.int _=>true|.bl _,.str _=>true|.str _,.bl _=>true
 |_,_=>false
noncomputable def Bl:R2:=λx y H Q=>J1 x y=true/\Q (.bl (decide (x=y))) H
noncomputable def Bp:R2:=λx y H Q=>J1 x y=true/\Q (.bl (!decide (x=y))) H
theorem E3{i j:Int}:decide (V.int i=V.int j)=(i==j):=by
 rw[kQ];simp
theorem E1{i j:Bool}:decide (V.bl i=V.bl j)=(i==j):=by
 rw[kQ];simp
theorem E4{i j:Str}:decide (V.str i=V.str j)=(i==j):=by
 rw[kQ];simp
theorem E2{i j:Array UInt8}:decide (V.jN i=V.jN j)=(i.toList==j.toList):=by
 rw[kQ];cases i;cases j;simp
section
variable{X:Cx}{a b c:Expr}{ta tb tc:TE}{pos:Pos}
theorem cQ{pins:aZ}{σ:St}{H:Hp}{s:Shared}{Q:VK}{k a:Bool}(I:Inv X pins σ H s)(q:Q (.bl k) H)(e:k=a):EP X pins σ Q (.bool a) s:=by
 subst e;exact⟨.bl k,H,I,rfl,q⟩
theorem T4:bL X (compareOp .Eq) Bl:=by
 intro pins s σ H x y v u Q I c a h;obtain⟨b,q⟩:=h;cases x with
 |aG=>
  cases c;cases y with
  |aG=>cases a;exact PySem.EqNone.eq_none_none (cQ I q θ)
  |bl j=>cases a;exact PySem.EqNone.eq_none_bool (cQ I q θ)
  |int j=>obtain⟨t',rfl⟩:=a;exact PySem.EqNone.eq_none_int (cQ I q θ)
  |str j=>obtain⟨t',rfl⟩:=a;exact PySem.EqNone.eq_none_str (cQ I q θ)
  |_=>exact absurd (show false=true from b) bU
 |bl i=>
  cases c;cases y with
  |aG=>cases a;exact PySem.EqNone.eq_bool_none (cQ I q θ)
  |bl j=>cases a;exact eq_bool (cQ I q E1)
  |str j=>obtain⟨t',rfl⟩:=a;exact PySem.EqMixed.eq_bool_str (cQ I q θ)
  |_=>exact absurd (show false=true from b) bU
 |int i=>
  obtain⟨t,rfl⟩:=c;cases y with
  |aG=>cases a;exact PySem.EqNone.eq_int_none (cQ I q θ)
  |int j=>obtain⟨t',rfl⟩:=a;exact eq_int (cQ I q E3)
  |str j=>obtain⟨t',rfl⟩:=a;exact PySem.EqMixed.eq_int_str (cQ I q θ)
  |_=>exact absurd (show false=true from b) bU
 |str i=>
  obtain⟨t,rfl⟩:=c;cases y with
  |aG=>cases a;exact PySem.EqNone.eq_str_none (cQ I q θ)
  |bl j=>cases a;exact PySem.EqMixed.eq_str_bool (cQ I q θ)
  |int j=>obtain⟨t',rfl⟩:=a;exact PySem.EqMixed.eq_str_int (cQ I q θ)
  |str j=>obtain⟨t',rfl⟩:=a;exact eq_str (cQ I q E4)
  |_=>exact absurd (show false=true from b) bU
 |jN i=>
  obtain⟨t,rfl⟩:=c;cases y with
  |jN j=>obtain⟨t',rfl⟩:=a;exact PySem.W.eq_bytes (cQ I q E2)
  |_=>exact absurd (show false=true from b) bU
 |_=>cases y<;>exact absurd (show false=true from b) bU
theorem Ud:bL X (compareOp .NotEq) Bp:=by
 intro pins s σ H x y v u Q I c a h;obtain⟨b,q⟩:=h;cases x with
 |aG=>
  cases c;cases y with
  |aG=>cases a;exact PySem.EqNone.ne_none_none (cQ I q θ)
  |bl j=>cases a;exact PySem.EqNone.ne_none_bool (cQ I q θ)
  |int j=>obtain⟨t',rfl⟩:=a;exact PySem.EqNone.ne_none_int (cQ I q θ)
  |str j=>obtain⟨t',rfl⟩:=a;exact PySem.EqNone.ne_none_str (cQ I q θ)
  |_=>exact absurd (show false=true from b) bU
 |bl i=>
  cases c;cases y with
  |aG=>cases a;exact PySem.EqNone.ne_bool_none (cQ I q θ)
  |bl j=>cases a;exact ne_bool (cQ I q (cj not E1))
  |str j=>obtain⟨t',rfl⟩:=a;exact PySem.EqMixed.ne_bool_str (cQ I q θ)
  |_=>exact absurd (show false=true from b) bU
 |int i=>
  obtain⟨t,rfl⟩:=c;cases y with
  |aG=>cases a;exact PySem.EqNone.ne_int_none (cQ I q θ)
  |int j=>obtain⟨t',rfl⟩:=a;exact ne_int (cQ I q (cj not E3))
  |str j=>obtain⟨t',rfl⟩:=a;exact PySem.EqMixed.ne_int_str (cQ I q θ)
  |_=>exact absurd (show false=true from b) bU
 |str i=>
  obtain⟨t,rfl⟩:=c;cases y with
  |aG=>cases a;exact PySem.EqNone.ne_str_none (cQ I q θ)
  |bl j=>cases a;exact PySem.EqMixed.ne_str_bool (cQ I q θ)
  |int j=>obtain⟨t',rfl⟩:=a;exact PySem.EqMixed.ne_str_int (cQ I q θ)
  |str j=>obtain⟨t',rfl⟩:=a;exact ne_str (cQ I q (cj not E4))
  |_=>exact absurd (show false=true from b) bU
 |jN i=>
  obtain⟨t,rfl⟩:=c;cases y with
  |jN j=>obtain⟨t',rfl⟩:=a;exact PySem.W.ne_bytes (cQ I q (cj not E2))
  |_=>exact absurd (show false=true from b) bU
 |_=>cases y<;>exact absurd (show false=true from b) bU
theorem T_:bL X (compareOp .Lt) (jy λi j=>.bl (decide (i<j))):=AW λ_ _ _ _ _ _ _ q=>lt_int q
theorem T8:bL X (compareOp .LtE) (jy λi j=>.bl (decide (i<=j))):=AW λ_ _ _ _ _ _ _ q=>le_int q
theorem T7:bL X (compareOp .Gt) (jy λi j=>.bl (decide (j<i))):=AW λ_ _ _ _ _ _ _ q=>gt_int q
theorem Ua:bL X (compareOp .Lt) (λx y H Q=>∃i j,x=.str i/\y=.str j/\Q (.bl (decide (i.cps.toList<j.cps.toList))) H):=by
 intro pins s σ H x y v u Q I a b h;obtain⟨i,j,rfl,rfl,q⟩:=h;obtain⟨t,rfl⟩:=a;obtain⟨t',rfl⟩:=b;exact lt_str (cQ I q rfl)
theorem Uh:bL X (compareOp .IsNot) (λx y H Q=>y=.aG/\Q (.bl (!decide (x=.aG))) H):=by
 intro pins s σ H x y v u Q I a b h;obtain⟨rfl,q⟩:=h;cases b;refine isnot_none_gen (cQ I q ?_);cases x<;>first
  |(cases a;rfl)
  |(obtain⟨t,rfl⟩:=a;rfl)
theorem bL.or{f:Value->Value->Sem Value}{r r':R2}(h:bL X f r)(h':bL X f r'):bL X f (λx y H Q=>r x y H Q\/r' x y H Q):=by
 intro pins s σ H x y v u Q I a b q;rcases q with q|q
 .exact h pins s σ H x y v u Q I a b q
 .exact h' pins s σ H x y v u Q I a b q
theorem mW(b:Expr){op:CmpOp}(h:op≠ .In:=by decide)(h2:op≠ .NotIn:=by decide):behindInMarks op b=false:=by
 have a:(op==CmpOp.In)=false:=by cases op<;>first|rfl|exact absurd rfl h
 have c:(op==CmpOp.NotIn)=false:=by cases op<;>first|rfl|exact absurd rfl h2
 cases b<;>simp[behindInMarks,a,c]
theorem Uy{op:CmpOp}{r:R2}(c:bL X (compareOp op) r)(d:PE X a ta)(e:PE X b tb)(f:behindInMarks op b=false):PE X (.Compare a [op] [b] pos) (tO r ta tb):=by
 intro pins s σ H Q I h;exact wpAny_Compare1 (zB d e I h λv u g x y H2 i j k q=>c pins g σ H2 x y v u Q i j k q) f
def BQ(t:TE):TT:=λσ H Q=>t σ H λx H'=>∃k,x=.bl k/\Q k H'
theorem VB{op:CmpOp}{r:R2}(d:bL X (compareOp op) r)(f:PE X a ta)(g:PE X b tb)(i:behindInMarks op b=false):PT X (.Compare a [op] [b] pos) (BQ (tO r ta tb)):=by
 intro pins s σ H Q I h;refine wpAny_isTrue_Compare1 (aJ (f pins s σ H _ I h) λv j ⟨x,H1,l,m,n⟩=>aJ (g pins j σ H1 _ l n) λu o ⟨y,H2,p,q,t⟩=>
  aJ (d pins o σ H2 x y v u _ p m q t) λc D ⟨z,w,A,B,k,e,C⟩=>?_) i
 subst e;cases B;exact nk ⟨w,A,C⟩
def BN(r r':R2)(ta tb tc:TE):TE:=λσ H Q=>ta σ H λx H1=>tb σ H1 λy H2=>r x y H2 λz H3=>∃k,z=.bl k/\
 (if k=true then tc σ H3 λw' H4=>r' y w' H4 Q else Q (.bl false) H3)
theorem Ux{op f:CmpOp}{r r':R2}(n:bL X (compareOp op) r)(g:bL X (compareOp f) r')(o:PE X a ta)(p:PE X b tb)(hc:PE X c tc)
  (q:lastMarks [op,f] [b,c]=false:=by with_unfolding_all rfl):PE X (.Compare a [op,f] [b,c] pos) (BN r r' ta tb tc):=by
 intro pins s σ H Q I h;refine Compare_chain (aJ (o pins s σ H _ I h) λv t ⟨x,H1,w,A,B⟩=>chain_link (aJ (p pins t σ H1 _ w B) λu C ⟨y,H2,D,i,E⟩=>
  aJ (n pins C σ H2 x y v u _ D A i E) λd F ⟨z,j,l,G,k,e,m⟩=>?_)) q
 subst e;cases G;refine nk ?_;cases k with
 |false=>exact ite_ff ⟨.bl false,j,l,rfl,m⟩
 |true=>exact ite_tt (chain_last (aJ (hc pins F σ j _ l m) λJ s4 ⟨K,L,M,N,O⟩=>g pins s4 σ L y K u J Q M i N O))
theorem VA{op f:CmpOp}{r r':R2}(n:bL X (compareOp op) r)(g:bL X (compareOp f) r')(o:PE X a ta)(p:PE X b tb)(hc:PE X c tc)
  (q:lastMarks [op,f] [b,c]=false:=by with_unfolding_all rfl):PT X (.Compare a [op,f] [b,c] pos) (BQ (BN r r' ta tb tc)):=by
 intro pins s σ H Q I h;refine isTrue_chain (aJ (o pins s σ H _ I h) λv t ⟨x,H1,w,A,B⟩=>test_link (aJ (p pins t σ H1 _ w B) λu C ⟨y,H2,D,i,E⟩=>
  aJ (n pins C σ H2 x y v u _ D A i E) λd F ⟨z,j,l,G,k,e,m⟩=>?_)) q
 subst e;cases G;refine nk ?_;cases k with
 |false=>
  obtain⟨Y,J,K⟩:=m;cases J;exact ite_ff ⟨j,l,K⟩
 |true=>
  refine ite_tt (test_last (aJ (hc pins F σ j _ l m) λL s4 ⟨M,N,O,P,R⟩=>aJ (g pins s4 σ N y M u L _ O i P R) λd' s5 ⟨Z,S,T,U,k2,V,W⟩=>?_));subst V;cases U;exact nk ⟨S,T,W⟩
theorem ZM{κ:Type}{kvs:List (κ×V)}{vs:List (κ×Value)}(r:KV kvs vs):(!vs.isEmpty)= !kvs.isEmpty:=by
 cases r<;>rfl
theorem ZN{xs:List V}{its:List Value}(r:Vals xs its):(!its.toArray.isEmpty)= !xs.isEmpty:=by
 cases r<;>simp
theorem p6:(sizeLine:Nat)<2 ^ 63:=by rw[lT];decide
theorem TV:bL X (binaryOp .Add) (λx y H Q=>∃i j,x=.str i/\y=.str j/\i.length+j.length<=sizeLine/\Q (.str (i++j)) H):=by
 intro pins s σ H x y v u Q I a b h;obtain⟨i,j,rfl,rfl,hz,q⟩:=h;obtain⟨t,rfl⟩:=a;obtain⟨t',rfl⟩:=b;exact add_str (λt' c=>⟨.str (i++j),H,I.tok _,⟨_,rfl⟩,q⟩) hz
theorem vals1{x:V}{a:List Value}(r:Vals [x] a):∃u,a=[u]/\RelV x u:=by
 cases r with
 |cons b c=>cases c;exact⟨_,rfl,b⟩
theorem vals2{x y:V}{a:List Value}(r:Vals [x,y] a):∃u b,a=[u,b]/\RelV x u/\RelV y b:=by
 cases r with
 |cons c d=>
  cases d with
  |cons e f=>cases f;exact⟨_,_,rfl,c,e⟩
theorem Mg(hc:X.calm=true):eN X (.builtin "max") (λxs H Q=>∃i j,xs=[.int i,.int j]/\Q (.int (if j>i then j else i)) H):=by
 intro pins s σ H xs b Q I r h;obtain⟨i,j,rfl,q⟩:=h;obtain⟨u,c,rfl,⟨t,rfl⟩,⟨t',rfl⟩⟩:=vals2 r;refine max_two_ints (I.ok.hd hc) λh' d k=>⟨_,H,I.kept k,?_,q⟩;by_cases a:j>i
 .rw[aA a,aA a];exact⟨_,rfl⟩
 .rw[ao a,ao a];exact⟨_,rfl⟩
end
structure yX(h:Heap)(x dx C:Addr)(mA:aB):Prop where
 obj:h.get? x=some (instObj C dx)
 ns:h.Ns1 dx mA
 ne:dx≠x
theorem So{h:Heap}{dx:Addr}{c:aB}(n:h.Ns1 dx c):∃d,h.get? dx=some d/\∀name,lookIn name d=some (c name):=by
 obtain⟨o,es,ep,f,hd,g,_,i⟩:=n;refine⟨o,f,λname=>?_⟩;have e:=i name;unfold nsFind findBy at e;rw[<-Array.find?_toList] at e;unfold lookIn;rw[hd];dsimp only;split
 .rename_i y q
  rw[q] at e;exact cj some e
 .rename_i q
  rw[q] at e;have a:es.toList.any (·.refKey)=false:=by
   rw[List.any_eq_false];intro y j;obtain⟨z,t,b⟩:=g y (Array.mem_toList_iff.mp j);simp[DictEntry.refKey,b]
  have k:¬es.toList.any (·.refKey)=true:=by rw[a];exact bU
  rw[ao k];exact cj some e
theorem yX.look{h:Heap}{x dx C:Addr}{b:aB}(I:yX h x dx C b):∃a,PySem.W.InstAt h x (instObj C dx) C (some a)/\∀name,lookIn name a=some (b name):=
 let ⟨a,c,d⟩:=So I.ns
 ⟨a,⟨I.obj,rfl,rfl,c⟩,d⟩
theorem jL.some_of{v:V}{o:Option Value}(r:jL (some v) o):∃u,o=some u/\RelV v u:=by
 cases o with
 |none=>exact(show False from r).elim
 |some u=>exact⟨u,rfl,r⟩
section
variable{P:Program}{w:World}{H H':Hp}{h h':Heap}{a C dx:Addr}{fs fs':List (Str×V)}
theorem Q_(hok:cT P w H h)(e:H a=some (.ins C dx fs)):∃b,yX h a dx C b/\(∀f,jL (fs.lookup f) (b f))/\PySem.Within b (fs.map (·.1))/\fs.length<=1000/\H dx=some (.own a):=by
 obtain⟨d,z,ne,c,b,n,r,q⟩:=(show b9 P w H h a (.ins C dx fs) from hok a _ e);exact⟨b,⟨c,n,ne⟩,r,q,z,d⟩
end
structure yL(K:Frag)(C:Addr):Prop where
 pg:plainGet K C Str.empty=true
 hd:PySem.W.hasDictIn K C=true
 po:PySem.W.plainOver K C=true
 sa:findIn K (.ref C) "__setattr__"=some (some (.builtin "object.__setattr__"))
theorem yL.get{K:Frag}{C:Addr}(c:yL K C)(f:Str):plainGet K C f=true:=c.pg
section
variable{X:Cx}{pins:aZ}{σ:St}{H:Hp}{s:Shared}{A:Around}{E:aU}{Q:aU}{c:Value}{b:Bool}
inductive iO(K:Frag)(H:Hp):V->Value->Prop where
 |aG:iO K H .aG (.type "NoneType")
 |bl (x:Bool):iO K H (.bl x) (.type "bool")
 |int (i:Int):iO K H (.int i) (.type "int")
 |str (x:Str):iO K H (.str x) (.type "str")
 |pQ (x:UInt64):iO K H (.pQ x) (.type "float")
 |lst {a:Addr} {xs:List V} (e:H a=some (.lst xs)):iO K H (.ref a) (.type "list")
 |bT {a:Addr} {o:Obj} {xs:List V} (e:H a=some (.bT o (.lst xs))):iO K H (.ref a) (.type "list")
 |tup {a:Addr} {xs:List V} (e:H a=some (.tup xs)):iO K H (.ref a) (.type "tuple")
 |dK {a:Addr} {kvs:List (Key×V)} (e:H a=some (.dK kvs)):iO K H (.ref a) (.type "dict")
 |dT {a:Addr} {kvs:List (List Key×V)} (e:H a=some (.dT kvs)):iO K H (.ref a) (.type "dict")
 |ins {a C dx:Addr} {fs:List (Str×V)} (e:H a=some (.ins C dx fs)) (cl:yL K C) (ha:findIn K (.ref C) "__class__"=some (some (.builtin "object.__class__")))
  (hn:PySem.W.specialIn K (.builtin "object.__class__") "__get__"=some (some (.builtin "getset_descriptor.__get__"))) (htk:PySem.W.takesIn K (.builtin "object.__class__")=some true)
  (hm:PySem.W.mroIn K C (.type "object")=some true):iO K H (.ref a) (.ref C)
theorem Rh{x:V}{u t:Value}(I:Inv X pins σ H s)(d:RelV x u)(ty:iO X.K H x t)(e:kitOne X.K t c=some b)(h:∀j,Q (.bool b) {s with toks:=j}):
  wpAny (model X.prog X.w) A (call (.builtin "isinstance") [u,c]) Q E s:=by
 cases ty with
 |aG=>cases (show u=Value.none from d);exact jd PySem.W.kitx_none I.fZ True.intro e (λz=>nomatch z) h
 |bl y=>cases (show u=Value.bool y from d);exact jd PySem.W.kitx_bool I.fZ True.intro e (λz=>nomatch z) h
 |int i=>obtain⟨t,q⟩:=(show ∃t,u=Value.int i t from d);cases q;exact jd PySem.W.kitx_int I.fZ True.intro e (λz=>nomatch z) h
 |str y=>obtain⟨t,q⟩:=(show ∃t,u=Value.str y t from d);cases q;exact jd PySem.W.kitx_str I.fZ True.intro e (λz=>nomatch z) h
 |pQ y=>obtain⟨t,q⟩:=(show ∃t,u=Value.float y t from d);cases q;exact jd PySem.W.kitx_float I.fZ True.intro e (λz=>nomatch z) h
 | @lst a xs f=>
  cases (show u=Value.ref a from d);obtain⟨_,_,n,_,h1⟩:=(show b9 X.prog X.w H s.heap a (.lst xs) from I.hok a _ f);exact jd kitx_list I.fZ ⟨_,h1,rfl⟩ e (λz=>nomatch z) h
 | @bT a k xs f=>
  cases (show u=Value.ref a from d);obtain⟨_,_,_,n,_,h1⟩:=(show b9 X.prog X.w H s.heap a (.bT k (.lst xs)) from I.hok a _ f);exact jd kitx_list I.fZ ⟨_,h1,rfl⟩ e (λz=>nomatch z) h
 | @tup a xs f=>
  cases (show u=Value.ref a from d);obtain⟨_,_,_,p⟩:=(show b9 X.prog X.w H s.heap a (.tup xs) from I.hok a _ f);obtain⟨o,h1,h2,_⟩:=p.is;exact jd kitx_tuple I.fZ ⟨o,h1,h2⟩ e (λz=>nomatch z) h
 | @dK a kvs f=>
  cases (show u=Value.ref a from d);obtain⟨_,_,vs,_,p⟩:=(show b9 X.prog X.w H s.heap a (.dK kvs) from I.hok a _ f);obtain⟨o,es,ep,h1,h2,_⟩:=p;exact jd kitx_dict I.fZ ⟨o,h1,h2.1⟩ e (λz=>nomatch z) h
 | @dT a kvs f=>
  cases (show u=Value.ref a from d);obtain⟨_,_,xs,_,o,es,ep,h1,h2,_⟩:=(show b9 X.prog X.w H s.heap a (.dT kvs) from I.hok a _ f);exact jd kitx_dict I.fZ ⟨o,h1,h2.1⟩ e (λz=>nomatch z) h
 | @ins a C dx fs f cl l m g r=>
  cases (show u=Value.ref a from d);obtain⟨v,O,_⟩:=Q_ I.hok f;obtain⟨B,J,_⟩:=O.look;exact jd (PySem.W.kitx_own (cl.get _) cl.hd l m g r) I.fZ J e (λz=>nomatch z) h
end
structure dW(k:Nat)(A:Around):Prop where
 hd:A.handled=none
 dp:A.depth+3*k+5<recursionLimit
 un:A.units+16*k+200<cLine
theorem dW.mono{j k:Nat}{A:Around}(r:dW k A)(h:j<=k):dW j A:=⟨r.hd,by have:=r.dp;omega,by have:=r.un;omega⟩
theorem dW.deeper{k:Nat}{A:Around}(r:dW (k+1) A)(env:Env):dW k (A.deeper env):=
 ⟨r.hd,by have:=r.dp;show A.depth+1+3*k+5<_;omega,by have:=r.un;show A.units+3+16*k+200<_;omega⟩
theorem dW.depth{k:Nat}{A:Around}(r:dW k A):A.depth<recursionLimit:=by have:=r.dp;omega
theorem dW.units{k:Nat}{A:Around}(r:dW k A):A.units+64<cLine:=by have:=r.un;omega
noncomputable def Yn:TA:=λ_ H Q=>Q [] H
noncomputable def Yc(ta:TE)(tr:TA):TA:=λσ H Q=>ta σ H λx H1=>tr σ H1 λxs H2=>Q (x::xs) H2
section
variable{X:Cx}{e:Expr}{es:List Expr}{te:TE}{t:TA}{pos:Pos}
theorem HF:PA X [] Yn:=λ_ _ _ _ H Q I h=>yg ⟨[],H,I,.nil,h⟩
theorem AY(a:PE X e te)(b:PA X es t)(c:starEach (e::es) X.env=(false,eval e X.env)::starEach es X.env:=by rfl):PA X (e::es) (Yc te t):=by
 intro pos pins s σ H Q I h;rw[c];show wpAny _ _ (spliced ((false,eval e X.env)::backTo pos (starEach es X.env))) _ _ s;refine yf (aJ (a pins s σ H _ I h) λu d ⟨x,H1,f,g,i⟩=>?_);exact aJ (b pos pins d σ H1 _ f i) λm n ⟨xs,H2,j,k,l⟩=>⟨x::xs,H2,j,.cons g k,l⟩
def Yz(t:TA):TE:=λσ H Q=>t σ H λxs H1=>xs.length<=sizeLine/\∀p,H1 p=none->Q (.ref p) (upd H1 p (.tup xs))
def Yl(t:TA):TE:=λσ H Q=>t σ H λxs H1=>xs.length<=sizeLine/\∀p,H1 p=none->Q (.ref p) (upd H1 p (.lst xs))
theorem UQ{d}(h:PA X es t):PE X (.Tuple es d pos) (Yz t):=by
 intro pins s σ H Q I f;refine wpAny_Tuple_spliced (aJ (h pos pins s σ H _ I f) λg a ⟨xs,H1,c,r,z,q⟩=>⟨by rw[<-r.length];exact z,?_⟩);have i:H1 a.heap.objs.size=none:=c.hok.fresh (aF _);refine⟨.ref a.heap.objs.size,upd H1 a.heap.objs.size (.tup xs),c.laid (t':=a.toks) (λb u e=>bu _ e) (aF _) ?_,rfl,q _ i⟩;exact⟨z,g,r,⟨_,cu _ rfl⟩⟩
theorem UI(h:PA X es t):PE X (.List es pos) (Yl t):=by
 intro pins s σ H Q I d;refine wpAny_List_spliced (aJ (h pos pins s σ H _ I d) λf a ⟨xs,H1,c,r,z,q⟩=>⟨by rw[<-r.length];exact z,?_⟩);have g:H1 a.heap.objs.size=none:=c.hok.fresh (aF _);refine⟨.ref a.heap.objs.size,upd H1 a.heap.objs.size (.lst xs),c.laid (t':=a.toks) (λb u e=>bu _ e) (aF _) ?_,rfl,q _ g⟩;exact⟨z,f,0,r,cu _ rfl⟩
end
abbrev Sp:=List V->Hp->VK->XK->Prop
abbrev ji:=List Env->Hp->Shared->XK->aU
structure uA(P:Program)(w:World)(K:Frag)(mg:aB)(base:Heap)(A:Around)(outer:List Env)(s:Shared)(H:Hp):Prop where
 frames:A.frames=some outer
 mod:Mod K mg base
 bs:∀b o,base.get? b=some o->s.heap.get? b=some o/\H b=none
 nK:base.objs.size<=s.heap.objs.size
 kE:s.heap.FunFrames base outer
 pR:∀b∈frs outer,H b=none
 hok:cT P w H s.heap
 bare:AllBare s.gens
def CE(outer:List Env)(P:Program)(w:World)(H:Hp)(s:Shared)(Q:VK)(u:Value)(s':Shared):Prop:=
 ∃v H',s'.os=s.os/\AllBare s'.gens/\Un (frs outer) [] H H' s.heap s'.heap/\cT P w H' s'.heap/\RelV v u/\Q v H'
def CR(CX:ji)(outer:List Env)(P:Program)(w:World)(H:Hp)(s:Shared)(Q:VK)(E:XK)(r:Result)(s':Shared):Prop:=
 match r with
 |.ok (.ret u)=>CE outer P w H s Q u s'
 |.ok _=>False
 |.error e=>CX outer H s E e s'
structure gb(P:Program)(w:World)(K:Frag)(mg:aB)(base:Heap)(CX:ji)(k:Nat)(f:Addr)(fd:FuncData)(ps:List Str)(sp:Sp):Prop where
 len:∀vs H Q E,sp vs H Q E->vs.length=ps.length
 run:∀(A:Around) (outer:List Env) (s:Shared) (H:Hp) (args:Args) (us:List Value) (vs:List V) (Q:VK) (E:XK),dW k A->uA P w K mg base A outer s H->BindsTo s fd args (ps.zip us)->Vals vs us->sp vs H Q E->
  codeAny (model P w) A (.call (.ref f) args) (CR CX outer P w H s Q E) s
theorem gb.mono{P:Program}{w:World}{K:Frag}{mg:aB}{base:Heap}{CX:ji}{j k:Nat}{f:Addr}{fd:FuncData}{ps:List Str}{sp:Sp}(F:gb P w K mg base CX j f fd ps sp)(h:j<=k):
 gb P w K mg base CX k f fd ps sp:=⟨F.len,λA outer s H args a vs Q E b=>F.run A outer s H args a vs Q E (b.mono h)⟩
theorem gb.imp{P:Program}{w:World}{K:Frag}{mg:aB}{base:Heap}{CX:ji}{k:Nat}{f:Addr}{fd:FuncData}{ps:List Str}{sp a:Sp}(F:gb P w K mg base CX k f fd ps sp)
  (h:∀vs H Q E,a vs H Q E->sp vs H Q E):gb P w K mg base CX k f fd ps a:=
 ⟨λvs H Q E q=>F.len vs H Q E (h _ _ _ _ q),λA outer s H args b vs Q E c d e g i=>F.run A outer s H args b vs Q E c d e g (h _ _ _ _ i)⟩
section
variable{X:Cx}{pins:aZ}{σ:St}{H:Hp}{s s':Shared}
theorem Inv.N5(I:Inv X pins σ H s):uA X.prog X.w X.K X.mg X.base X.A X.stack s H:=
 ⟨I.ok.frames,I.ok.mod,I.bs,cC I.ok.nK I.sz,I.stack,I.BH,I.hok,I.bare⟩
theorem Inv.after{Q:VK}{u:Value}(I:Inv X pins σ H s)(h:CE X.stack X.prog X.w H s Q u s'):EP X pins σ Q u s':=by
 obtain⟨v,H',os,bare,un,hok,r,q⟩:=h;obtain⟨c,g,d,t,a⟩:=s';obtain rfl:a=s.os:=os;exact⟨v,H',I.call (h':=c) (g':=g) (d':=d) (t':=t) (ch:=[]) un hok bare (λb z=>absurd z θ),r,q⟩
end
def Kv(sp:Sp)(mO:List V)(E:XK)(t:TA):TE:=λσ H Q=>t σ H λvs H1=>sp (vs++mO) H1 Q E
def Binds(K:Frag)(fd:FuncData)(ps:List Str)(ds:List Value):Prop:=
 ∀(s:Shared) (us:List Value),K.In s.heap->(us++ds).length=ps.length->BindsTo s fd ⟨us,[]⟩ (ps.zip (us++ds))
theorem Binds.all{K:Frag}{fd:FuncData}{ps:List Str}(h:∀a:List Value,a.length=ps.length->bindArgs fd ⟨a,[]⟩=pure (ps.zip a)):Binds K fd ps []:=λs a _ b=>by
 rw[lX] at b ⊢;exact .of_eq (h a b)
def Passes(CX:ji)(X:Cx)(E:XK):Prop:=∀(pins:aZ) (σ:St) (H:Hp) (s:Shared) (e:Value) (s':Shared),Inv X pins σ H s->CX X.stack H s E e s'->X.xe e s'
section
variable{X:Cx}{CX:ji}{k:Nat}{f C:Addr}{fd:FuncData}{ps:List Str}{sp:Sp}{mO:List V}{ds:List Value}{E:XK}{x m:Str}{p pos apos:Pos}{e o:Expr}{es:List Expr}{ta:TE}{t:TA}
theorem V_{pins:aZ}{σ:St}{H:Hp}{s:Shared}{Q:VK}{a:List Value}{vs:List V}(F:gb X.prog X.w X.K X.mg X.base CX k f fd ps sp)(d:dW k X.A)(g:Binds X.K fd ps ds)(hd:Vals mO ds)(i:Passes CX X E)
  (I:Inv X pins σ H s)(r:Vals vs a)(h:sp (vs++mO) H Q E):wpAny (model X.prog X.w) X.A (call (.ref f) a) (EP X pins σ Q) X.xe s:=by
 have c:Vals (vs++mO) (a++ds):=r.append hd;have j:(a++ds).length=ps.length:=by rw[<-c.length];exact F.len _ _ _ _ h
 refine wpAny_call (nB (F.run X.A X.stack s H ⟨a,[]⟩ (a++ds) (vs++mO) Q E d I.N5 (g s a I.fZ j) c h) λr s' b=>?_);cases r with
 |error e=>exact i pins σ H s e s' I b
 |ok fl=>
  cases fl with
  |ret u=>exact I.after b
  |next=>exact False.elim b
  |brk=>exact False.elim b
  |cont=>exact False.elim b
theorem Uu(F:gb X.prog X.w X.K X.mg X.base CX k f fd ps sp)(d:dW k X.A)(g:Gl X x)(i:X.mg x=some (.ref f))(j:keepIn X.K (.ref f)=true)(l:Binds X.K fd ps ds)(hd:Vals mO ds)(m:Passes CX X E)
  (n:PA X (e::es) t)(a:(x==("__debug__":Str))=false:=by decide)(o:starEach (e::es) X.env=(false,eval e X.env)::starEach es X.env:=by rfl)(b:(backTo pos (starEach es X.env)).any (·.1)=false:=by rfl):
  PE X (.Call (.Name x p) (e::es) [] pos) (Kv sp mO E t):=by
 intro pins s σ H Q I h;refine lU (AA I g i ?_ a);refine PySem.W.callWith_K (h₀:=X.base) I.ok.mod.vN j (aJ (n pos pins s σ H _ I h) λu v ⟨vs,H1,c,r,q⟩=>⟨c.fZ,?_⟩) o b;exact V_ F d l hd m c r q
end
structure aW(N P:List Str)(sc:Scope):Prop where
 kind:sc.kind= .function
 co:sc.isCoroutine=false
 gen:sc.isGenerator=false
 nd:N.Nodup
 pre:N.take P.length=P
 par:∀x∈P,sc.names.lookup x=some .local\/sc.names.lookup x=some .cell
 AU:∀y∈sc.names,y.2≠ .free
theorem Ec{kindOf:Str->Option NameKind}{x:Str}:∀{binds:List (Str×Value)} {m:aB},(∀v,(x,v)∉binds)->bindL kindOf binds m x=m x
 |[],_,_=>rfl
 |(n,v)::r,m,h=>by
  unfold bindL;rw[Ec λw a=>h w (bq _ a)];split
  .have:x≠n:=by rintro rfl;exact h v aT
   simp[this]
  .rfl
theorem Ea{kindOf:Str->Option NameKind}{x:Str}:∀{binds:List (Str×Value)} {m:aB},(∀v,(x,v)∉binds)->bindC kindOf binds m x=m x
 |[],_,_=>rfl
 |(n,v)::r,m,h=>by
  unfold bindC;rw[Ea λw a=>h w (bq _ a)];split
  .rfl
  .have:x≠n:=by rintro rfl;exact h v aT
   simp[this]
theorem Eb{kindOf:Str->Option NameKind}{x:Str}{v:Value}:∀{P:List Str} {vs:List Value} {i:Nat} {m:aB},P.Nodup->P[i]?=some x->vs[i]?=some v->kindOf x=some .local->
  bindL kindOf (P.zip vs) m x=some v
 |[],_,_,_,_,h,_,_=>by simp at h
 |_::_,[],_,_,_,_,h,_=>by simp at h
 |p::P,w::vs,0,m,nd,h1,h2,a=>by
  simp at h1 h2;subst h1;subst h2;show bindL kindOf ((p,w)::P.zip vs) m p=_;unfold bindL;rw[Ec λv b=>(iK.mp nd).1 (of_mem_zip b).1,aA a];simp
 |p::P,w::vs,i+1,m,nd,h1,h2,a=>by
  show bindL kindOf ((p,w)::P.zip vs) m x=_;unfold bindL;exact Eb (i:=i) (iK.mp nd).2 (by simpa using h1) (by simpa using h2) a
theorem D_{kindOf:Str->Option NameKind}{x:Str}{v:Value}:∀{P:List Str} {vs:List Value} {i:Nat} {m:aB},P.Nodup->P[i]?=some x->vs[i]?=some v->kindOf x≠some .local->
  bindC kindOf (P.zip vs) m x=some v
 |[],_,_,_,_,h,_,_=>by simp at h
 |_::_,[],_,_,_,_,h,_=>by simp at h
 |p::P,w::vs,0,m,nd,h1,h2,a=>by
  simp at h1 h2;subst h1;subst h2;show bindC kindOf ((p,w)::P.zip vs) m p=_;unfold bindC;rw[Ea λv b=>(iK.mp nd).1 (of_mem_zip b).1,ao a];simp
 |p::P,w::vs,i+1,m,nd,h1,h2,a=>by
  show bindC kindOf ((p,w)::P.zip vs) m x=_;unfold bindC;exact D_ (i:=i) (iK.mp nd).2 (by simpa using h1) (by simpa using h2) a
noncomputable def start(N:List Str)(vs:List V):St:=vs.map some++replicate (N.length - vs.length) none
noncomputable def cZ(CX:ji)(P:Program)(w:World)(K:Frag)(mg:aB)(base:Heap)(N:List Str)(qual:Str)(scope:Scope)(f:Addr)(cd:Value)(A:Around)(outer:List Env)(s:Shared)(H:Hp)(E:XK):Cx where
 prog:=P
 w:=w
 K:=K
 mg:=mg
 base:=base
 A:=A.deeper (envOfC qual scope s.heap.objs.size f cd)
 N:=N
 s₀:=s
 H₀:=H
 env:=envOfC qual scope s.heap.objs.size f cd
 outer:=outer
 stack:=envOfC qual scope s.heap.objs.size f cd::outer
 ex:=[]
 calm:=true
 fn:=λ_=>true
 pn:=[]
 xe:=λe s'=>wpAny (model P w) (A.deeper (envOfC qual scope s.heap.objs.size f cd)) (leaving (envOfC qual scope s.heap.objs.size f cd) e) (λ_ s''=>CX outer H s E e s'') (λe' s''=>CX outer H s E e' s'') s'
theorem Ep{sc:Scope}{n:Nat}{x:Str}(h:sc.names.lookup x=some .cell):∃c,(cellsFrom n sc.names []).lookup x=some c:=by
 have q:=PySem.W.cellsFrom_some sc.names n [] (.inl h);exact qq.mp q
theorem Rc{CX:ji}{P:Program}{w:World}{K:Frag}{mg:aB}{base:Heap}{N ps:List Str}{qual:Str}{scope:Scope}{f:Addr}{cd:Value}{A:Around}{outer:List Env}{s o:Shared}{H:Hp}{E:XK}{m:List Value}{vs:List V}
  (S:aW N ps scope)(hd:A.handled=none)(d:uA P w K mg base A outer s H)(G:vs.length=ps.length)(r:Vals vs m)
  (x:InCallC s s.heap.objs.size (bindL (envOfC qual scope s.heap.objs.size f cd).kindOf (ps.zip m) λ_=>none) (cellsFrom (s.heap.objs.size+1) scope.names []) (bindC (envOfC qual scope s.heap.objs.size f cd).kindOf (ps.zip m) λ_=>none) o):
  Inv (cZ CX P w K mg base N qual scope f cd A outer s H E) [] (start N vs) H o:=by
 have C:ps.length<=N.length:=by have:=cj List.length S.pre;rw[kR] at this;omega
 obtain⟨h1,I,rfl,t⟩:=x.done
 have g:∀b:Addr,b∉(cZ CX P w K mg base N qual scope f cd A outer s H E).ex:=λb z=>absurd (show b∈([]:List Addr) from z) θ
 refine⟨⟨d.mod,S.kind,rfl,rfl,aF _,λy z c h1 h2=> ?_,λy hy=> ?_,λy c _ h=> ?_,λ_=>hd,Around.frames_deeper d.frames,.inr ⟨rfl,rfl⟩,λb z=>absurd z (g b),d.bs,d.nK,λb _ _=>g b,λb z=>absurd z (g b),d.kE,d.pR⟩,
  rfl,d.bare,Un.kept t,⟨_,x.toInCall.ns,λi y v h1 h2 J=> ?_⟩,λy c h=>⟨_,x.cell y c h⟩,d.hok.fresh (aF _),λy c h=> ?_,λp j=>absurd (show p∈([]:aZ) from j) θ,d.hok.kept t,?_⟩
 .exact name_of_addr x.apart (oW h1) (oW h2)
 .have hy:scope.names.lookup y=some .cell\/scope.names.lookup y=some .free:=hy
  rcases hy with hy|hy
  .exact Ep hy
  .exact absurd rfl (S.AU _ (oW hy))
 .exact ir (x.above y c (oW h))
 .have hi:i<vs.length:=by
   unfold start at h2
   by_cases hi:i<vs.length
   .exact hi
   .rw[qQ (by simpa using hi)] at h2
    rw[List.getElem?_replicate] at h2
    split at h2<;>cases h2
  have D:vs[i]? =some v:=by
   unfold start at h2
   rw[iu (by simpa using hi),ck] at h2
   cases e:vs[i]? with
   |none=>rw[e] at h2;cases h2
   |some a=>rw[e] at h2;cases h2;rfl
  obtain⟨u,B,F⟩:=r.get D
  have j:ps[i]? =some y:=by
   rw[<-S.pre,List.getElem?_take_of_lt ω];exact h1
  have l:ps.Nodup:=by rw[<-S.pre];exact S.nd.sublist (List.take_sublist _ _)
  refine⟨u,F,?_⟩
  rcases S.par y (cS j) with k|k
  .exact .inl ⟨k,Eb l j B k⟩
  .obtain⟨c,e⟩:=Ep (n:=s.heap.objs.size+1) k
   refine .inr ⟨.inl k,c,e,?_⟩
   have q:=x.cell y c e
   rw[D_ l j B (by show scope.names.lookup y≠_;rw[k];decide)] at q
   exact q
 .exact d.hok.fresh (ir (x.above y c (oW h)))
 .unfold start
  show _=N.length
  rw[cM,aK,List.length_replicate]
  omega
theorem FJ{CX:ji}{P:Program}{w:World}{K:Frag}{mg:aB}{base:Heap}{k:Nat}{f:Addr}{name qual:Str}{params:Arguments}{body:List Stmt}{scope:Scope}{z kV doc pm a ct D:Value}{an F:Option Addr}
  {j:Array (Option Value)}{N ps:List Str}{sp:Sp}(lk:K.lookup f=some ⟨D,F,.func (fnOf name qual params body scope z kV doc pm an a ct),j⟩)(l:codeIn K a qual=true)(S:aW N ps scope)
  (len:∀vs H Q E,sp vs H Q E->vs.length=ps.length)
  (c:∀(A:Around) (outer:List Env) (s:Shared) (H:Hp) (vs:List V) (Q:VK) (E:XK),dW k (A.deeper (envOfC qual scope s.heap.objs.size f a))->sp vs H Q E->
   ∃t,dU (cZ CX P w K mg base N qual scope f a A outer s H E) body t/\t {nx:=λ_ H'=>Q .aG H',rt:=Q} (start N vs) H):
  gb P w K mg base CX (k+1) f (fnOf name qual params body scope z kV doc pm an a ct) ps sp:=by
 refine⟨len,λA outer s H args G vs Q E m h L r i=> ?_⟩
 have M:=len _ _ _ _ i
 have B:K.In s.heap:=h.mod.vN.keeps λb o e=>(h.bs b o e).1
 have lim:s.heap.NoLimit:=h.mod.nolimit.keeps λb o e=>(h.bs b o e).1
 have d:∀y∈ps.zip G,scope.names.lookup y.1=some .local\/(scope.names.lookup y.1=some .cell/\((cellsFrom (s.heap.objs.size+1) scope.names []).lookup y.1).isSome=true):=λ⟨n,v⟩ O=>by
  rcases S.par n (of_mem_zip O).1 with q|q
  .exact .inl q
  .exact .inr ⟨q,PySem.W.cellsFrom_some _ _ _ (.inl q)⟩
 refine codeAny_call_function m.depth (B _ _ lk) rfl S.co S.gen rfl (PySem.W.codeRec_of B l) (L _ _ _ _ ?_)
 refine wpAny_newFunctionEnv_cells S.kind d λenv R C x=> ?_
 subst R
 refine⟨lim.keeps x.toInCall.keep,codeAny_func ?_⟩
 obtain⟨t,T,U⟩:=c A outer s H vs Q E (m.deeper _) i
 have I:Inv (cZ CX P w K mg base N qual scope f a A outer s H E) [] (start N vs) H C:=Rc S m.hd h M r x
 refine kU (T [] C (start N vs) H _ I U) (λfl s' g=> ?_) λe s' g=>g
 have fin:∀{σ':St} {H':Hp} {v:V} {u:Value},Inv (cZ CX P w K mg base N qual scope f a A outer s H E) [] σ' H' s'->RelV v u->Q v H'->CE outer P w H s Q u s':=
  λ {σ' H' v u} J p q=>⟨v,H',J.os,J.bare,J.base,J.hok,p,q⟩
 cases fl with
 |ret u=>
  obtain⟨v,σ',H',J,p,q⟩:=g
  exact fin J p q
 |next=>
  obtain⟨σ',H',J,q⟩:=g
  exact fin (v:=V.aG) (u:=Value.none) J rfl q
 |brk=>
  obtain⟨_,_,_,q⟩:=g
  exact False.elim q
 |cont=>
  obtain⟨_,_,_,q⟩:=g
  exact False.elim q
section
variable{X:Cx}{x:Str}{p pos:Pos}{e:Expr}{es:List Expr}{t:TA}{id T:String}{r:List V->Hp->VK->Prop}
def BL(r:List V->Hp->VK->Prop)(t:TA):TE:=λσ H Q=>t σ H λvs H1=>r vs H1 Q
theorem HM(hc:eN X (.builtin id) r)(c:Gl X x)(d:X.mg x=none)(f:bootBuiltins x=some (.builtin id))(g:PA X (e::es) t)(i:x≠"__name__":=by decide)(a:(x==("__debug__":Str))=false:=by decide)
  (j:starEach (e::es) X.env=(false,eval e X.env)::starEach es X.env:=by rfl)(b:(backTo pos (starEach es X.env)).any (·.1)=false:=by rfl):PE X (.Call (.Name x p) (e::es) [] pos) (BL r t):=by
 intro pins s σ H Q I h;refine lU (jv I c d f ?_ i a);exact Ci (aJ (g pos pins s σ H _ I h) λk l ⟨vs,H1,m,n,o⟩=>hc pins l σ H1 vs k Q m n o) j b
theorem Uv(hc:eN X (.type T) r)(c:Gl X x)(d:X.mg x=none)(f:bootBuiltins x=some (.type T))(g:PA X (e::es) t)(i:x≠"__name__":=by decide)(a:(x==("__debug__":Str))=false:=by decide)
  (j:starEach (e::es) X.env=(false,eval e X.env)::starEach es X.env:=by rfl)(b:(backTo pos (starEach es X.env)).any (·.1)=false:=by rfl):PE X (.Call (.Name x p) (e::es) [] pos) (BL r t):=by
 intro pins s σ H Q I h;refine lU (jv I c d f ?_ i a);exact ng (aJ (g pos pins s σ H _ I h) λk l ⟨vs,H1,m,n,o⟩=>hc pins l σ H1 vs k Q m n o) j b
end
end L2
end
namespace HT
open PySem PyProof.Rows
section
variable{prog:Program}{w:World}{A:Around}{E:aU}{s:Shared}
theorem Mq{t b:Addr}{vs ws:List Value}{Q:aU}(l:IsTup s.heap t vs.toArray)(m:IsTup s.heap b ws.toArray)(i:vs≠[])
  (h1:ws=[]->Q (.ref t) s)(h2:ws≠[]->Q (.ref s.heap.objs.size) {s with heap:=s.heap.push {cls:= .type "tuple",data:= .seq (vs++ws).toArray}})
  (hsz:vs.length+ws.length<=sizeLine):wpAny (model prog w) A (binaryOp .Add (.ref t) (.ref b)) Q E s:=by
 obtain⟨⟨cls,dd,data,j⟩,g,hc,n,hd⟩:=id l
 obtain⟨⟨k,c,data2,d⟩,a,f,n2,hd2⟩:=id m
 simp only at hc hd f hd2
 subst hc hd f hd2
 have e:vs.toArray++ws.toArray=(vs++ws).toArray:=θ
 by_cases h:ws=[]
 .exact concat_meets ⟨_,g,rfl⟩ ⟨_,a,rfl⟩ noFill_tuple_add seq_tuple_add slot_tuple_add entry_tuple_add (args_tuple_add_2 _ _)
   (tuple_addW1 t b vs.toArray ws.toArray n n2 dd c j d (by simpa using i) (by simp[h])) ⟨g,a,h1 h⟩
 .refine concat_meets ⟨_,g,rfl⟩ ⟨_,a,rfl⟩ noFill_tuple_add seq_tuple_add slot_tuple_add entry_tuple_add (args_tuple_add_2 _ _)
   (tuple_addW2 t b vs.toArray ws.toArray n n2 dd c j d (by simpa using i) (by simpa using h) (by rw[cg,cg];exact hsz)) ⟨g,a,?_⟩
  rw[e]
  exact h2 h
noncomputable def bh(n d:Nat):Option Int->Nat
 |none=>d
 |some v=>if v<0 then (v+(n:Int)).toNat else min v.toNat n
theorem Wg(n d:Nat):bh n d none=d:=rfl
theorem We(n d:Nat)(hd:d<=n)(o:Option Int):bh n d o<=n:=by
 cases o with
 |none=>exact hd
 |some v=>
  show(if v<0 then (v+(n:Int)).toNat else min v.toNat n)<=n;by_cases a:v<0
  .rw[aA a];omega
  .rw[ao a];exact Nat.min_le_right _ _
theorem Et(v:Int)(n d:Nat):(if v<0 then max (v+(n:Int)) 0 else min v (n:Int))=((bh n d (some v):Nat):Int):=by
 show(if v<0 then max (v+(n:Int)) 0 else min v (n:Int))=(((if v<0 then (v+(n:Int)).toNat else min v.toNat n):Nat):Int);by_cases a:v<0
 .simp only[aA a];omega
 .simp only[ao a];omega
theorem LQ(lo hi:Option Int)(n:Nat):Builtin.Slice.sliceAdjust lo hi 1 (n:Int)=(((bh n 0 lo:Nat):Int),((bh n n hi:Nat):Int)):=by
 have h1:¬((1:Int)<0):=ω
 unfold Builtin.Slice.sliceAdjust;simp only[h1,gk];refine Prod.ext ?_ ?_
 .cases lo with
  |none=>rfl
  |some v=>exact Et v n 0
 .cases hi with
  |none=>rfl
  |some v=>exact Et v n n
theorem Va(i j:Nat):Builtin.Slice.slicePlaces (i:Int) (j:Int) 1=j - i:=by
 unfold Builtin.Slice.slicePlaces;have h1:(1:Int)>0:=ω
 simp only[h1,lR,Int.ediv_one];split<;>omega
theorem J8{v:Value}{o:Option Int}{Q:Option Int->Shared->Prop}(p:IsPart v o)(h:Q o s):wpAny (model prog w) A (Builtin.Slice.slicePartIndex v) Q E s:=by
 cases p with
 |none=>exact slicePart_none h
 |int i t=>exact slicePart_int h
theorem XC{e:Addr}{c d:Value}{lo hi:Option Int}{n:Nat}{Q:Int×Int×Nat->Shared->Prop}(f:s.heap.IsSliceOf e c d .none)(pl:IsPart c lo)(pu:IsPart d hi)
  (h:Q (((bh n 0 lo:Nat):Int),1,bh n n hi - bh n 0 lo) s):wpAny (model prog w) A (Builtin.Slice.sliceApplied (.ref e) (pure (n:Int))) Q E s:=by
 obtain⟨os,a,g,b⟩:=id f;unfold Builtin.Slice.sliceApplied Builtin.Slice.sliceFields;refine ah (ah (jY a b (x:=c) rfl (ah (jY a b (x:=d) rfl (ah (jY a b (x:=.none) rfl (aD ?_)))))));refine ah (slicePart_none ?_);show wpAny _ _ (if ((1:Int)==0)=true then _ else _) _ _ s;rw[ao δ];refine ah (J8 pl (ah (J8 pu (ah (aD ?_)))));show wpAny _ _ (match Builtin.Slice.sliceAdjust lo hi 1 (n:Int) with|(lo,hi)=>pure (lo,(1:Int),Builtin.Slice.slicePlaces lo hi 1)) _ _ s;rw[LQ lo hi n];show wpAny _ _ (pure (((bh n 0 lo:Nat):Int),(1:Int),Builtin.Slice.slicePlaces ((bh n 0 lo:Nat):Int) ((bh n n hi:Nat):Int) 1)) _ _ s;rw[Va];exact aD h
theorem U6(xs:Array Value)(i k:Nat):((range k).filterMap λ(m:Nat)=>xs[((i:Int)+(m:Int)*1).toNat]?).toArray=((xs.toList.drop i).take k).toArray:=by
 have e:(λ(m:Nat)=>xs[((i:Int)+(m:Int)*1).toNat]?)=λm=>xs[i+m]? :=by
  funext m;have:((i:Int)+(m:Int)*1).toNat=i+m:=ω
  rw[this]
 rw[e];have:=pick_run xs i k;rw[List.filterMap_map] at this;have a:((λx=>xs[x]?)∘λx=>i+x)=λm=>xs[i+m]? :=rfl;rw[a] at this;rw[this]
theorem P5{t c:Addr}{items:Array Value}{i j:Value}{lo hi:Option Int}{Q:aU}(b:IsTup s.heap t items)(k:s.heap.IsSliceOf c i j .none)(pl:IsPart i lo)(pu:IsPart j hi)
  (l:¬(bh items.size 0 lo=0/\bh items.size items.size hi=items.size))
  (h:Q (.ref s.heap.objs.size) {s with heap:=s.heap.push {cls:= .type "tuple",data:= .seq ((items.toList.drop (bh items.size 0 lo)).take (bh items.size items.size hi - bh items.size 0 lo)).toArray}})
  (hsz:items.size<=sizeLine):wpAny (model prog w) A (getItem (.ref t) (.ref c)) Q E s:=by
 have a:sizeOk (.seq ((items.toList.drop (bh items.size 0 lo)).take (bh items.size items.size hi - bh items.size 0 lo)).toArray):=by
  show((items.toList.drop (bh items.size 0 lo)).take (bh items.size items.size hi - bh items.size 0 lo)).toArray.size<=sizeLine
  rw[cg,kR,qu,gn]
  omega
 have o:bh items.size items.size hi<=items.size:=We _ _ (aF _) hi
 obtain⟨os,d,e,n⟩:=id k
 have f:s.TypeIs (.ref c) "slice":=⟨os,d,e⟩
 unfold getItem
 try with_reducible refine fS ?_
 first|refine ah (aD ?_)|skip
 refine ah (wpAny_sequenceKey b.typeIs δ ?_)
 refine ah (oR (name:=Str.ofString "__getitem__") b.typeIs Cm
  (jf Cm b.typeIs entry_tuple_getitem ?_ (args_tuple_getitem _ _)))
 show wpAny _ _ (Builtin.Tuple.tupleItemsOf (.ref t)>>=_) _ _ s
 refine ah (tupleItemsOf_ b ?_)
 refine ah (nu f ?_)
 rw[aA δ]
 refine ah (XC k pl pu ?_)
 have g:¬((((bh items.size 0 lo:Nat):Int)==0&&(1:Int)==1&&(bh items.size items.size hi - bh items.size 0 lo)==items.size)=true):=by
  intro q
  rw[kX,kX] at q
  have p:((bh items.size 0 lo:Nat):Int)=0:=eq_of_beq q.1.1
  have r:bh items.size items.size hi - bh items.size 0 lo=items.size:=eq_of_beq q.2
  exact l ⟨ω,ω⟩
 show wpAny _ _ (if (((bh items.size 0 lo:Nat):Int)==0&&(1:Int)==1&&(bh items.size items.size hi - bh items.size 0 lo)==items.size)=true then _ else _) _ _ s
 rw[ao g,U6]
 first
  |exact ah (m:=Builtin.Tuple.tupleExact _) (gE (aD ⟨_,rfl,aD h⟩) a)
  |exact ah (m:=Builtin.Tuple.tupleExact _) (gE (ah (aD (aD ⟨_,rfl,aD h⟩))) a)
  |exact ah (ah (m:=Builtin.Tuple.tupleExact _) (gE (aD (aD ⟨_,rfl,aD h⟩)) a))
  |exact ah (ah (m:=Builtin.Tuple.tupleExact _) (gE (aD ⟨_,rfl,aD h⟩) a))
end
end HT
section
open PySem PySem.Spec PyProof.Rows
namespace L2
abbrev TO:=St->Hp->(Option Int->Hp->Prop)->Prop
def PO(X:Cx)(e:Option Expr)(t:TO):Prop:=
 ∀(pins:aZ) (s:Shared) (σ:St) (H:Hp) (Q:Option Int->Hp->Prop),Inv X pins σ H s->t σ H Q->
  wpAny (model X.prog X.w) X.A (evalPart e X.env) (λu s'=>∃o H',Inv X pins σ H' s'/\IsPart u o/\Q o H') X.xe s
noncomputable def Yo:TO:=λ_ H Q=>Q none H
noncomputable def Ys(t:TE):TO:=λσ H Q=>t σ H λx H1=>∃i,x=.int i/\Q (some i) H1
section
variable{X:Cx}{e:Expr}{te:TE}{lo hi:Option Expr}{tl th:TO}{pos p2:Pos}
theorem Vc:PO X none Yo:=by
 intro pins s σ H Q I h;rw[evalPart_none];exact aD ⟨none,H,I,.none,h⟩
theorem Vd(h:PE X e te):PO X (some e) (Ys te):=by
 intro pins s σ H Q I a;rw[evalPart_some];refine aJ (h pins s σ H _ I a) λu f ⟨x,H1,b,c,d⟩=>?_;obtain⟨i,rfl,q⟩:=d;obtain⟨t,rfl⟩:=c;exact⟨some i,H1,b,.int i t,q⟩
def nI(X:Cx)(r:V->Option Int->Option Int->Hp->VK->Prop):Prop:=
 ∀(pins:aZ) (s:Shared) (σ:St) (H:Hp) (x:V) (v vl vu:Value) (lo hi:Option Int) (sl:Addr) (Q:VK),Inv X pins σ H s->RelV x v->s.heap.IsSliceOf sl vl vu .none->IsPart vl lo->IsPart vu hi->r x lo hi H Q->
  ∃T id,typeLookup (.type T) "__getitem__"=pure (some (.builtin id))/\s.TypeIs v T/\wpAny (model X.prog X.w) X.A (getItem v (.ref sl)) (EP X pins σ Q) X.xe s
theorem nI.or{r r':V->Option Int->Option Int->Hp->VK->Prop}(h:nI X r)(h':nI X r'):nI X (λx lo hi H Q=>r x lo hi H Q\/r' x lo hi H Q):=by
 intro pins s σ H x v a b lo hi c Q I d e pl pu q;rcases q with q|q
 .exact h pins s σ H x v a b lo hi c Q I d e pl pu q
 .exact h' pins s σ H x v a b lo hi c Q I d e pl pu q
def Yw(r:V->Option Int->Option Int->Hp->VK->Prop)(te:TE)(tl th:TO):TE:=λσ H Q=>te σ H λx H1=>tl σ H1 λl H2=>th σ H2 λu H3=>r x l u H3 Q
theorem UM{r:V->Option Int->Option Int->Hp->VK->Prop}(g:nI X r)(i:PE X e te)(j:PO X lo tl)(k:PO X hi th):PE X (.Subscript e (.Slice lo hi none p2) pos) (Yw r te tl th):=by
 intro pins s σ H Q I h;refine Subscript_ (aJ (i pins s σ H _ I h) λv m ⟨x,H1,n,o,p⟩=>?_);refine wpAny_Slice (aJ (j pins m σ H1 _ n p) λc t ⟨l,H2,y,pl,z⟩=>aJ (k pins t σ H2 _ y z) λd a ⟨u,f,B,pu,C⟩=>?_);rw[evalPart_none];refine aD ?_;have D:Inv X pins σ f {a with heap:=a.heap.push {cls:=.type "slice",data:=.fields #[c,d,.none]}}:=B.kept (t':=a.toks) λb J q=>bu _ q;obtain⟨T,id,E,F,G⟩:=g pins {a with heap:=a.heap.push {cls:=.type "slice",data:=.fields #[c,d,.none]}} σ f x v c d l u a.heap.objs.size Q D o (Heap.IsSliceOf.new ..) pl pu C;show wpAny (model X.prog X.w) X.A (subscriptTail e (.Slice lo hi none p2) v (.ref a.heap.objs.size)) (EP X pins σ Q) X.xe {a with heap:=a.heap.push {cls:=.type "slice",data:=.fields #[c,d,.none]}};exact tail_any (ops:=[.ref a.heap.objs.size,v]) F E G (by with_unfolding_all rfl)
noncomputable def mF(xs:List V)(lo hi:Option Int):List V:=(xs.drop (HT.bh xs.length 0 lo)).take (HT.bh xs.length xs.length hi - HT.bh xs.length 0 lo)
theorem ED(xs:List V)(lo hi:Option Int):(mF xs lo hi).length<=xs.length:=by
 unfold mF;rw[kR,qu];omega
noncomputable def VP(K:Frag):V->Option Int->Option Int->Hp->VK->Prop:=λx lo hi H Q=>∃a xs,x=.ref a/\bP K H a xs/\
 ¬(HT.bh xs.length 0 lo=0/\HT.bh xs.length xs.length hi=xs.length)/\∀p,H p=none->Q (.ref p) (upd H p (.tup (mF xs lo hi)))
theorem XA:nI X (VP X.K):=by
 intro pins s σ H x v j k lo hi l Q I e f pl pu h;obtain⟨a,xs,rfl,g,i,q⟩:=h;cases e;obtain⟨its,r,d,hz⟩:=I.tuple g;have c:its.toArray.size=xs.length:=by rw[cg];exact r.length.symm
 refine⟨"tuple",_,Cm.lookup,d.typeIs,?_⟩;refine HT.P5 d f pl pu (by rw[c];exact i) ?_ (by rw[c];exact hz);rw[c];refine⟨.ref s.heap.objs.size,_,I.laid (t':=s.toks) (o:=.tup (mF xs lo hi)) (λb m q=>bu _ q) (aF _) ?_,rfl,q _ (I.hok.fresh (aF _))⟩;exact⟨cC (ED xs lo hi) hz,_,(r.drop (HT.bh xs.length 0 lo)).take (HT.bh xs.length xs.length hi - HT.bh xs.length 0 lo),mz.new _ _⟩
noncomputable def VL(K:Frag):R2:=λx y H Q=>∃a b xs ys,x=.ref a/\y=.ref b/\bP K H a xs/\bP K H b ys/\xs≠[]/\xs.length+ys.length<=sizeLine/\
 (ys=[]->Q (.ref a) H)/\(ys≠[]->∀p,H p=none->Q (.ref p) (upd H p (.tup (xs++ys))))
theorem Vals.AS{xs:List V}{a:List Value}(r:Vals xs a):a=[]↔xs=[]:=by
 cases r with
 |nil=>simp
 |cons _ _=>simp
theorem TZ:bL X (binaryOp .Add) (VL X.K):=by
 intro pins s σ H x y v u Q I f g h;obtain⟨a,b,xs,ys,rfl,rfl,i,j,k,hz,l,m⟩:=h;cases f;cases g;obtain⟨its,d,p1,_⟩:=I.tuple i;obtain⟨e,c,p2,_⟩:=I.tuple j;refine HT.Mq p1 p2 (λz=>k (d.AS.mp z)) (λz=>⟨.ref a,H,I,rfl,l (c.AS.mp z)⟩) (λz=>?_) (by rw[<-d.length,<-c.length];exact hz);refine⟨.ref s.heap.objs.size,_,I.laid (t':=s.toks) (o:=.tup (xs++ys)) (λb n q=>bu _ q) (aF _) ?_,rfl,m (λw=>z (c.AS.mpr w)) _ (I.hok.fresh (aF _))⟩;exact⟨by rw[cM];exact hz,_,d.append c,mz.new _ _⟩
end
noncomputable def iX(n:Nat)(i:Int):Option Nat:=if 0<=i then (if i<n then some i.toNat else none) else if -(n:Int)<=i then some (i+n).toNat else none
noncomputable def cY{α:Type}(xs:List α)(i:Int):Option α:=(iX xs.length i).bind λj=>xs[j]?
theorem GD{n:Nat}{i:Int}{j:Nat}(h:iX n i=some j):seqIndex? i n=some j/\j<n/\-(n:Int)<=i/\i<n:=by
 unfold iX at h;by_cases h0:0<=i
 .rw[aA h0] at h
  by_cases h1:i<n
  .rw[aA h1] at h
   have e:i.toNat=j:=Option.some.inj h;exact⟨by rw[seqIndex_of h0 h1,e],ω,ω,h1⟩
  .rw[ao h1] at h;cases h
 .rw[ao h0] at h
  by_cases h1: -(n:Int)<=i
  .rw[aA h1] at h
   have e:(i+n).toNat=j:=Option.some.inj h;exact⟨by rw[seqIndex_neg ω h1,e],ω,h1,ω⟩
  .rw[ao h1] at h;cases h
theorem zz{α:Type}{xs:List α}{i:Int}{v:α}(h:cY xs i=some v):∃j,seqIndex? i xs.length=some j/\xs[j]?=some v/\j<xs.length/\-(xs.length:Int)<=i/\i<xs.length:=by
 unfold cY at h;cases e:iX xs.length i with
 |none=>rw[e] at h;cases h
 |some j=>
  rw[e] at h;obtain⟨h1,h2,a,b⟩:=GD e;exact⟨j,h1,h,h2,a,b⟩
theorem mC{α:Type}{xs:List α}{j:Nat}{v:α}(h:xs[j]?=some v):cY xs (j:Int)=some v:=by
 have a:j<xs.length:=(bY.mp h).1;have e:iX xs.length (j:Int)=some j:=by
  unfold iX;rw[aA ω,aA ω];simp
 unfold cY;rw[e];exact h
def yZ(b:Expr):Prop:=∀o i,subscripted b false o i=operate [o,i] (getItem o i)
def jJ(X:Cx)(r:R2):Prop:=
 ∀(value slice:Expr) (pins:aZ) (s:Shared) (σ:St) (H:Hp) (x y:V) (v u:Value) (Q:VK),Inv X pins σ H s->RelV x v->RelV y u->r x y H Q->
  subscripted slice false v u=operate [v,u] (getItem v u)->wpAny (model X.prog X.w) X.A (subscriptTail value slice v u) (EP X pins σ Q) X.xe s
def yW(X:Cx)(id:String)(r:V->List V->Hp->VK->Prop):Prop:=
 ∀(pins:aZ) (s:Shared) (σ:St) (H:Hp) (x:V) (xs:List V) (v:Value) (us:List Value) (Q:VK),Inv X pins σ H s->RelV x v->Vals xs us->r x xs H Q->
  wpAny (model X.prog X.w) X.A (call (.builtin id) (v::us)) (EP X pins σ Q) X.xe s
section
variable{X:Cx}{a b:Expr}{ta tb:TE}{pos:Pos}
theorem jJ.or{r r':R2}(h:jJ X r)(h':jJ X r'):jJ X (λx y H Q=>r x y H Q\/r' x y H Q):=by
 intro value slice pins s σ H x y v u Q I a b q c;rcases q with q|q
 .exact h value slice pins s σ H x y v u Q I a b q c
 .exact h' value slice pins s σ H x y v u Q I a b q c
theorem UG{r:R2}(c:jJ X r)(d:PE X a ta)(e:PE X b tb)(f:yZ b):PE X (.Subscript a b pos) (tO r ta tb):=by
 intro pins s σ H Q I h;exact Subscript_ (zB d e I h λv u g x y H2 i j k q=>c a b pins g σ H2 x y v u Q i j k q (f _ _))
noncomputable def Ih(K:Frag):R2:=λx y H Q=>∃p xs i v,x=.ref p/\y=.int i/\aV K H p xs/\cY xs i=some v/\Q v H
noncomputable def Ij(K:Frag):R2:=λx y H Q=>∃p xs i v,x=.ref p/\y=.int i/\bP K H p xs/\cY xs i=some v/\Q v H
noncomputable def Ii:R2:=λx y H Q=>∃z i c,x=.str z/\y=.int i/\z.length<=sizeLine/\cY z.cps.toList i=some c/\Q (.str ⟨#[c]⟩) H
theorem Rn:jJ X (Ih X.K):=by
 intro value slice pins s σ H x y v u Q I e f h c;obtain⟨p,xs,i,z,rfl,rfl,g,k,q⟩:=h;cases e;obtain⟨t,rfl⟩:=f;obtain⟨its,r,pl,hz⟩:=I.list g;obtain⟨j,h1,h2,o,l,m⟩:=zz k;obtain⟨w,d,a⟩:=r.get h2;have n:=r.length;have A:=p6;have fin:EP X pins σ Q w s:=⟨z,H,I,a,q⟩;by_cases h0:0<=i
 .have b:i.toNat=j:=by
   rw[seqIndex_of h0 m] at h1;exact Option.some.inj h1
  exact item_listR pl.isList h0 ω (by rw[b];simpa using d) fin c
 .have b:(i+(its.toArray.size:Int)).toNat=j:=by
   rw[seqIndex_neg ω l] at h1;rw[cg,<-n];exact Option.some.inj h1
  exact subscriptTail_builtinR (x:=w) pl.isList.typeIs slot_list_getitem.lookup
   (wpAny_getItem_list_neg (Q:=λr s'=>r=w/\EP X pins σ Q r s') pl.isList ω (by rw[cg]<;>omega) ω (by rw[b];simpa using d) ⟨rfl,fin⟩) c
theorem Rq:jJ X (Ij X.K):=by
 intro value slice pins s σ H x y v u Q I b c h d;obtain⟨p,xs,i,z,rfl,rfl,e,f,q⟩:=h;cases b;obtain⟨t,rfl⟩:=c;obtain⟨its,r,pl,hz⟩:=I.tuple e;obtain⟨j,h1,h2,l,m,n⟩:=zz f;obtain⟨w,g,a⟩:=r.get h2;have k:=r.length;have o:=p6;have fin:EP X pins σ Q w s:=⟨z,H,I,a,q⟩;exact subscriptTail_builtinR (x:=w) pl.typeIs slot_tuple_getitem.lookup
  (getItem_tuple (j:=j) (Q:=λr s'=>r=w/\EP X pins σ Q r s') pl ω ω (by rw[cg,<-k];exact h1) (by simpa using g) ⟨rfl,fin⟩) d
theorem Rp:jJ X Ii:=by
 intro value slice pins s σ H x y v u Q I a b h d;obtain⟨z,i,c,rfl,rfl,hz,e,q⟩:=h;obtain⟨t,rfl⟩:=a;obtain⟨t',rfl⟩:=b;obtain⟨j,h1,h2,n,f,g⟩:=zz e;have k:z.cps.toList.length=z.length:=by simp[Str.length]
 rw[k] at h1 f g;have o:=p6;exact tail_any (typeIs_str s z t) slot_str_getitem.lookup (getItem_str (c:=c) (by
  have l:decide (i< -(2 ^ 63:Int))=false:=gu ω;have m:decide (i≥2 ^ 63)=false:=gu ω;rw[l,m,Bool.or_false]) (by rw[h1];simpa using h2) ⟨.str ⟨#[c]⟩,H,I.tok _,⟨_,rfl⟩,q⟩) d
noncomputable def Ic(K:Frag):R2:=λx y H Q=>Ih K x y H Q\/Ij K x y H Q\/Ii x y H Q
theorem Ro:jJ X (Ic X.K):=Rn.or (Rq.or Rp)
theorem SG(its:List Value)(n j:Nat)(u:Value):Obj.mapSeq (·.setIfInBounds j u) {cls:=.type "list",data:=.seq its.toArray n}={cls:=.type "list",data:=.seq (its.set j u).toArray n}:=by
 simp[Obj.mapSeq]
theorem Inv.lst{pins:aZ}{σ:St}{H:Hp}{s:Shared}{p:Addr}{xs:List V}(I:Inv X pins σ H s)(h:H p=some (.lst xs)):
  ∃(its:List Value) (n:Nat),Vals xs its/\s.heap.get? p=some {cls:=.type "list",data:=.seq its.toArray n}/\xs.length<=sizeLine:=by
 obtain⟨z,its,n,r,e⟩:=I.hok p _ h;exact⟨its,n,r,e,z⟩
theorem Inv.Ss{pins:aZ}{σ:St}{H:Hp}{s:Shared}{p:Addr}{xs ys:List V}{its its':List Value}{n n':Nat}{f:Obj->Obj}(I:Inv X pins σ H s)(h:H p=some (.lst xs))
  (c:s.heap.get? p=some {cls:=.type "list",data:=.seq its.toArray n})(a:f {cls:=.type "list",data:=.seq its.toArray n}={cls:=.type "list",data:=.seq its'.toArray n'})(r:Vals ys its')(hz:ys.length<=sizeLine)(t:Nat):
  Inv X pins σ (upd H p (.lst ys)) {s with heap:=s.heap.update p f,toks:=t}:=by
 have e:(s.heap.update p f).get? p=some {cls:=.type "list",data:=.seq its'.toArray n'}:=by
  rw[j_ f c (by rw[a]<;>rfl),a]
 refine I.write (x:=p) (e:=p) (by rw[h];trivial) (.inl rfl) (λb u d q=>(o5 _ _ (Ne.symm d)).trans q) ⟨_,e⟩ ?_;exact⟨hz,its',n',r,e⟩
noncomputable def VN:V->V->V->Hp->(Hp->Prop)->Prop:=λo i v H Q=>∃p xs k j,o=.ref p/\i=.int k/\H p=some (.lst xs)/\iX xs.length k=some j/\Q (upd H p (.lst (xs.set j v)))
theorem set_list:CW X VN:=by
 intro pins s σ H o i v y z u Q I l m w h;obtain⟨p,xs,k,j,rfl,rfl,d,x,q⟩:=h;cases l;obtain⟨t,rfl⟩:=m;obtain⟨its,n,r,a,hz⟩:=I.lst d;obtain⟨h1,h2,e,f⟩:=GD x;have b:=r.length;have A:=p6;have g:Inv X pins σ (upd H p (.lst (xs.set j v))) {s with heap:=s.heap.update p (Obj.mapSeq (·.setIfInBounds j u))}:=
  I.Ss d a (SG its n j u) (r.set w j) (by rw[length_set];exact hz) s.toks
 by_cases h0:0<=k
 .have c:k.toNat=j:=by
   rw[seqIndex_of h0 f] at h1;exact Option.some.inj h1
  exact PySem.W.ki_setAt a h0 ω (by rw[cg,<-b];exact f) (by rw[c];exact⟨_,g,q⟩)
 .have c:(k+(its.toArray.size:Int)).toNat=j:=by
   rw[seqIndex_neg ω e] at h1;rw[cg,<-b];exact Option.some.inj h1
  exact PySem.W.ki_setBack a ω (by rw[cg,<-b];exact e) ω (by rw[c];exact⟨_,g,q⟩)
theorem XE(lo hi:Option Int)(n:Nat):(sliceBounds lo hi none n).1=((HT.bh n 0 lo:Nat):Int)/\(sliceBounds lo hi none n).2.1=((HT.bh n n hi:Nat):Int)/\(sliceBounds lo hi none n).2.2=1:=by
 refine⟨?_,?_,rfl⟩
 .cases lo with
  |none=>simp[sliceBounds,HT.bh]
  |some i=>
   simp only[sliceBounds,HT.bh,getD_none,show(1:Int)>0 by decide,lR];by_cases h:i<0
   .simp only[h,lR]<;>omega
   .simp only[h,gk]<;>omega
 .cases hi with
  |none=>simp[sliceBounds,HT.bh]
  |some i=>
   simp only[sliceBounds,HT.bh,getD_none,show(1:Int)>0 by decide,lR];by_cases h:i<0
   .simp only[h,lR]<;>omega
   .simp only[h,gk]<;>omega
theorem XD(its:List Value)(lo hi:Option Int):slicePick its.toArray lo hi none=((its.drop (HT.bh its.length 0 lo)).take (HT.bh its.length its.length hi - HT.bh its.length 0 lo)).toArray:=by
 obtain⟨h1,h2,a⟩:=XE lo hi its.toArray.size;unfold slicePick;rw[h1,h2,a];simp only[sliceRange_one,pick_run,cg]<;>rfl
noncomputable def VO(K:Frag):V->Option Int->Option Int->Hp->VK->Prop:=λx lo hi H Q=>∃a xs,x=.ref a/\aV K H a xs/\∀p,H p=none->Q (.ref p) (upd H p (.lst (mF xs lo hi)))
theorem Xz:nI X (VO X.K):=by
 intro pins s σ H x v i j lo hi k Q I e f pl pu h;obtain⟨a,xs,rfl,g,q⟩:=h;cases e;obtain⟨its,r,d,hz⟩:=I.list g;have c:=r.length;refine⟨"list",_,slot_list_getitem.lookup,d.isList.typeIs,?_⟩;refine wpAny_getItem_list_slice d.isList f pl pu .none θ ?_ (by rw[cg]<;>omega);rw[XD,<-c];refine⟨.ref s.heap.objs.size,_,I.laid (t':=s.toks) (o:=.lst (mF xs lo hi)) (λb l q=>bu _ q) (aF _) ?_,rfl,q _ (I.hok.fresh (aF _))⟩;exact⟨cC (ED xs lo hi) hz,_,0,(r.drop (HT.bh xs.length 0 lo)).take (HT.bh xs.length xs.length hi - HT.bh xs.length 0 lo),cu _ rfl⟩
noncomputable def kC:V->Bool
 |.aG=>true
 |.bl _=>true
 |.int _=>true
 |.str _=>true
 |_=>false
noncomputable def jt:V->V->Bool
 |.aG,.aG=>true
 |.bl a,.bl b=>a==b
 |.bl a,.int b=>(if a then 1 else 0)==b
 |.int a,.bl b=>a==(if b then 1 else 0)
 |.int a,.int b=>a==b
 |.str a,.str b=>a==b
 |_,_=>false
theorem N7{A:Around}{s:Shared}{y x:V}{u v:Value}(d:RelV y u)(c:RelV x v)(f:kC y=true)(e:kC x=true):SeqAt.EqAt A s u v (jt y x):=by
 cases y with
 |aG=>
  cases d;cases x with
  |aG=>cases c;exact SeqAt.EqAt.same _
  |bl b=>cases c;exact SeqAt.EqAt.none_bool b
  |int b=>obtain⟨t,rfl⟩:=c;exact SeqAt.EqAt.none_int b t
  |str b=>obtain⟨t,rfl⟩:=c;exact SeqAt.EqAt.none_str b t
  |_=>exact absurd (show false=true from e) bU
 |bl a=>
  cases d;cases x with
  |aG=>cases c;exact SeqAt.EqAt.bool_none a
  |bl b=>cases c;exact SeqAt.EqAt.bool_bool a b
  |int b=>obtain⟨t,rfl⟩:=c;exact SeqAt.EqAt.bool_int a b t
  |str b=>obtain⟨t,rfl⟩:=c;exact SeqAt.EqAt.bool_str a b t
  |_=>exact absurd (show false=true from e) bU
 |int a=>
  obtain⟨t',rfl⟩:=d;cases x with
  |aG=>cases c;exact SeqAt.EqAt.int_none a t'
  |bl b=>cases c;exact SeqAt.EqAt.int_bool a t' b
  |int b=>obtain⟨t,rfl⟩:=c;exact SeqAt.EqAt.int_int a t' b t
  |str b=>obtain⟨t,rfl⟩:=c;exact SeqAt.EqAt.int_str a t' b t
  |_=>exact absurd (show false=true from e) bU
 |str a=>
  obtain⟨t',rfl⟩:=d;cases x with
  |aG=>cases c;exact SeqAt.EqAt.str_none a t'
  |bl b=>cases c;exact SeqAt.EqAt.str_bool a t' b
  |int b=>obtain⟨t,rfl⟩:=c;exact SeqAt.EqAt.str_int a t' b t
  |str b=>obtain⟨t,rfl⟩:=c;exact SeqAt.EqAt.str_str a t' b t
  |_=>exact absurd (show false=true from e) bU
 |_=>exact absurd (show false=true from f) bU
noncomputable def ig(x:V)(u:Value):Bool:=match u with
 |.none=>jt .aG x
 |.bool b=>jt (.bl b) x
 |.int i _=>jt (.int i) x
 |.str z _=>jt (.str z) x
 |_=>false
theorem Fy{x y:V}{u:Value}(r:RelV y u)(f:kC y=true):ig x u=jt y x:=by
 cases y with
 |aG=>cases r;rfl
 |bl b=>cases r;rfl
 |int i=>obtain⟨t,rfl⟩:=r;rfl
 |str z=>obtain⟨t,rfl⟩:=r;rfl
 |_=>exact absurd (show false=true from f) bU
theorem rE{x:V}:∀{xs:List V} {a:List Value},Vals xs a->xs.all kC=true->a.any (ig x)=xs.any λy=>jt y x
 |_,_,.nil,_=>rfl
 |y::xs,u::a,.cons r t,f=>by
  rw[List.all_cons,kX] at f;rw[oY,oY,Fy r f.1,rE t f.2]
theorem sH{A:Around}{s:Shared}{x:V}{v:Value}(b:RelV x v)(c:kC x=true):∀{xs:List V} {a:List Value},Vals xs a->xs.all kC=true->∀u∈a,SeqAt.EqAt A s u v (ig x u)
 |_,_,.nil,_=>λu hu=>by cases hu
 |y::xs,u::a,.cons r t,f=>λd hu=>by
  rw[List.all_cons,kX] at f;rcases aY.mp hu with rfl|hu
  .rw[Fy r f.1];exact N7 r b f.1 c
  .exact sH b c t f.2 d hu
noncomputable def vI(x:V)(xs:List V):Bool:=xs.any λy=>jt y x
noncomputable def Bo(K:Frag)(neg:Bool):R2:=λx y H Q=>∃p xs,y=.ref p/\(aV K H p xs\/bP K H p xs)/\kC x=true/\xs.all kC=true/\Q (.bl (if neg then !vI x xs else vI x xs)) H
theorem HE:bL X (compareOp .In) (Bo X.K false):=by
 intro pins s σ H x y v u Q I b d h;obtain⟨p,xs,rfl,hq,c,fs,q⟩:=h;cases d;rcases hq with hq|hq
 .obtain⟨its,r,pl,hz⟩:=I.list hq
  refine SeqAt.in_listAt (ig x) pl.isList (λw a=>sH b c r fs w (by simpa using a)) ⟨.bl _,H,I,rfl,?_⟩;rw[show its.toArray.any (ig x)=its.any (ig x) by simp,rE r fs];exact q
 .obtain⟨its,r,pl,hz⟩:=I.tuple hq
  refine SeqAt.in_tupleAt (ig x) pl (λw a=>sH b c r fs w (by simpa using a)) ⟨.bl _,H,I,rfl,?_⟩;rw[show its.toArray.any (ig x)=its.any (ig x) by simp,rE r fs];exact q
theorem Ug:bL X (compareOp .NotIn) (Bo X.K true):=by
 intro pins s σ H x y v u Q I b d h;obtain⟨p,xs,rfl,hq,c,fs,q⟩:=h;cases d;rcases hq with hq|hq
 .obtain⟨its,r,pl,hz⟩:=I.list hq
  refine SeqAt.notIn_listAt (ig x) pl.isList (λw a=>sH b c r fs w (by simpa using a)) ⟨.bl _,H,I,rfl,?_⟩;rw[show its.toArray.any (ig x)=its.any (ig x) by simp,rE r fs];exact q
 .obtain⟨its,r,pl,hz⟩:=I.tuple hq
  refine SeqAt.notIn_tupleAt (ig x) pl (λw a=>sH b c r fs w (by simpa using a)) ⟨.bl _,H,I,rfl,?_⟩;rw[show its.toArray.any (ig x)=its.any (ig x) by simp,rE r fs];exact q
theorem Me:eN X (.builtin "len") (λxs H Q=>∃p ys,xs=[.ref p]/\(aV X.K H p ys\/bP X.K H p ys)/\Q (.int ys.length) H):=by
 intro pins s σ H xs c Q I r h;obtain⟨p,ys,rfl,hq,q⟩:=h;obtain⟨u,rfl,b⟩:=vals1 r;cases b;have d:=p6;rcases hq with hq|hq
 .obtain⟨its,r',pl,hz⟩:=I.list hq
  have a:=r'.length;exact Calls.call_len_list pl.isList (by simp only[cg]<;>omega) ⟨.int ys.length,H,I.tok _,⟨s.toks+1,by rw[cg,a]⟩,q⟩
 .obtain⟨its,r',pl,hz⟩:=I.tuple hq
  have a:=r'.length;exact len_tuple pl (by simp only[cg]<;>omega) ⟨.int ys.length,H,I.tok _,⟨s.toks+1,by rw[cg,a]⟩,q⟩
theorem Mf:eN X (.builtin "len") (λxs H Q=>∃z,xs=[.str z]/\z.length<=sizeLine/\Q (.int z.length) H):=by
 intro pins s σ H xs a Q I r h;obtain⟨z,rfl,hz,q⟩:=h;obtain⟨u,rfl,t,rfl⟩:=vals1 r;have b:=p6;exact len_str ω ⟨.int z.length,H,I.tok _,⟨_,rfl⟩,q⟩
theorem eN.or{f:Value}{r r':List V->Hp->VK->Prop}(h:eN X f r)(h':eN X f r'):eN X f (λxs H Q=>r xs H Q\/r' xs H Q):=by
 intro pins s σ H xs a Q I rs q;rcases q with q|q
 .exact h pins s σ H xs a Q I rs q
 .exact h' pins s σ H xs a Q I rs q
theorem Ek:eN X (.type "list") (λxs H Q=>∃p ys,xs=[.ref p]/\(aV X.K H p ys\/bP X.K H p ys)/\∀l,H l=none->Q (.ref l) (upd H l (.lst ys))):=by
 intro pins s σ H xs f Q I r h;obtain⟨p,ys,rfl,hq,q⟩:=h;obtain⟨u,rfl,d⟩:=vals1 r;cases d;have fin:∀(its:List Value),Vals ys its->ys.length<=sizeLine->∀(h':Heap) (c':Nat),(∀b o',s.heap.get? b=some o'->h'.get? b=some o')->
   h'.get? s.heap.objs.size=some {cls:=.type "list",dict:=none,data:=.seq its.toArray c',slots:= #[]}->EP X pins σ Q (.ref s.heap.objs.size) {s with heap:=h'}:=λits r' hz h' c' kp e=>
  ⟨.ref s.heap.objs.size,_,I.laid (t':=s.toks) kp (aF _) (show b9 X.prog X.w _ h' _ (.lst ys) from⟨hz,its,c',r',e⟩),rfl,q _ (I.hok.fresh (aF _))⟩
 rcases hq with hq|hq
 .obtain⟨its,r',pl,hz⟩:=I.list hq
  have a:=r'.length;obtain⟨o,c,hc,n,hd⟩:=pl.isList;exact call_list_seq p (.inl rfl) c hc hd (λh' c' kp e=>fin its r' hz h' c' kp e) (by simp only[cg]<;>omega)
 .obtain⟨its,r',pl,hz⟩:=I.tuple hq
  have a:=r'.length;obtain⟨o,c,hc,n,hd⟩:=pl;exact call_list_seq p (.inr rfl) c hc hd (λh' c' kp e=>fin its r' hz h' c' kp e) (by simp only[cg]<;>omega)
theorem rJ:eN X (.type "tuple") (λxs H Q=>∃p ys,xs=[.ref p]/\((aV X.K H p ys/\∀l,H l=none->Q (.ref l) (upd H l (.tup ys)))\/(bP X.K H p ys/\Q (.ref p) H))):=by
 intro pins s σ H xs i Q I r h;obtain⟨p,ys,rfl,h⟩:=h;obtain⟨u,rfl,f⟩:=vals1 r;cases f;rcases h with⟨a,q⟩|⟨a,q⟩
 .obtain⟨its,r',pl,hz⟩:=I.list a
  have c:=r'.length;refine call_tuple_list pl.isList (λh' kp=>?_) (by simp only[cg]<;>omega);have d:Inv X pins σ H {s with heap:=h'}:=I.kept (t':=s.toks) kp;have g:Inv X pins σ (upd H h'.objs.size (.tup ys)) {s with heap:=h'.push {cls:=.type "tuple",data:=.seq its.toArray}}:=
   d.laid (t':=s.toks) (λb o e=>bu _ e) (aF _) (show b9 X.prog X.w _ _ _ (.tup ys) from⟨hz,its,r',mz.new _ _⟩)
  exact⟨.ref h'.objs.size,_,g,rfl,q _ (d.hok.fresh (aF _))⟩
 .obtain⟨its,r',pl,hz⟩:=I.tuple a
  exact call_tuple_same pl ⟨.ref p,H,I,rfl,q⟩
def BZ(K:Frag)(T:String)(x:V)(H:Hp):Prop:=match x with
 |.str _=>T="str"
 |.int _=>T="int"
 |.ref p=>(T="list"/\∃xs,aV K H p xs)\/(T="tuple"/\∃o,K.lookup p=some o/\o.cls=.type "tuple"/\o.dict=none)\/
  (T="dict"/\((∃kvs,H p=some (.dK kvs))\/∃kvs,H p=some (.dT kvs)))\/(T="set"/\∃S n,H p=some (.set S n))
 |_=>False
theorem YX{pins:aZ}{σ:St}{H:Hp}{s:Shared}{T:String}{x:V}{v:Value}(I:Inv X pins σ H s)(r:RelV x v)(ty:BZ X.K T x H):
  s.TypeIs v T/\∀a,v=.ref a->∃f,s.heap.get? a=some f/\f.dict=none:=by
 cases x with
 |str z=>
  obtain⟨t,rfl⟩:=r;cases (show T="str" from ty);exact⟨typeIs_str s z t,λ_ e=>nomatch e⟩
 |int i=>
  obtain⟨t,rfl⟩:=r;cases (show T="int" from ty);exact⟨typeIs_int s i t,λ_ e=>nomatch e⟩
 |ref p=>
  cases r;rcases ty with⟨rfl,xs,g⟩|⟨rfl,o,b,hc,hd⟩|⟨rfl,b⟩|⟨rfl,S,n,b⟩
  .obtain⟨its,_,pl,_⟩:=I.list g
   refine⟨pl.isList.typeIs,λa e=>?_⟩;cases e;obtain⟨o,n,e,c,hd,_⟩:=pl;exact⟨o,e,hd⟩
  .refine⟨⟨o,I.fZ p o b,hc⟩,λa e=>?_⟩
   cases e;exact⟨o,I.fZ _ o b,hd⟩
  .have z:∃o,s.heap.get? p=some o/\o.ExactDict:=by
    rcases b with⟨kvs,b⟩|⟨kvs,b⟩
    .obtain⟨_,_,_,_,o,_,_,e,ex,_⟩:=I.hok p _ b
     exact⟨o,e,ex⟩
    .obtain⟨_,_,_,_,o,_,_,e,ex,_⟩:=I.hok p _ b
     exact⟨o,e,ex⟩
   obtain⟨o,e,ex⟩:=z;refine⟨⟨o,e,ex.1⟩,λa d=>?_⟩;cases d;exact⟨o,e,ex.2.1⟩
  .obtain⟨o,_,_,_,e,ex,_⟩:=I.hok p _ b
   refine⟨⟨o,e,ex.1⟩,λa d=>?_⟩;cases d;exact⟨o,e,ex.2.1⟩
 |_=>exact False.elim ty
def Yb(K:Frag)(T:String)(r:V->List V->Hp->VK->Prop)(to:TE)(t:TA):TE:=λσ H Q=>to σ H λx H1=>BZ K T x H1/\t σ H1 λxs H2=>r x xs H2 Q
variable{o e:Expr}{es:List Expr}{to:TE}{t:TA}{name:Str}{apos cpos:Pos}{T id:String}{r:V->List V->Hp->VK->Prop}
theorem HL(k:PlainAttrs T)(slot:Slot T name id)(f:typeOf (.builtin id)=pure (.type "method_descriptor"))(l:yW X id r)(m:PE X o to)(n:PA X (e::es) t)
  (b:attributeBase o name X.env (eval o X.env)=eval o X.env:=by rfl)
  (d:((backTo cpos (starEach (e::es) X.env)).all (λx=> !x.1)&&(backToKw cpos (keywordEach [] X.env)).all (λx=>x.1.isSome)
   &&decide ((e::es).length+([]:List Keyword).length+(if ([]:List Keyword).isEmpty then 0 else 1)<30))=true:=by rfl)
  (c:(apos.endLine==cpos.line)=true:=by rfl)(p:starEach (e::es) X.env=(false,eval e X.env)::starEach es X.env:=by rfl)(a:(backTo cpos (starEach es X.env)).any (·.1)=false:=by rfl):
  PE X (.Call (.Attribute o name apos) (e::es) [] cpos) (Yb X.K T r to t):=by
 intro pins s σ H Q I h
 refine wpAny_Call_method_late b d c rfl (aJ (m pins s σ H _ I h) λv q ⟨x,H1,g,i,ty,u⟩=> ?_)
 obtain⟨h1,h2⟩:=YX g i ty
 refine⟨T,id,k,slot,f,h1,h2,?_⟩
 have j:=n cpos pins q σ H1 _ g u
 rw[p] at j ⊢
 refine Calls.callWith_builtin (by show(false||(backTo cpos (starEach es X.env)).any (·.1))=false;rw[a]<;>rfl) (Calls.evalArgs_plain ?_)
 exact aJ j λw y ⟨vs,H2,z,A,B⟩=>l pins y σ H2 x vs v w Q z i A B
end
def yV(X:Cx)(id:String)(r:V->List V->Hp->VK->Prop):Prop:=
 ∀(pins:aZ) (s:Shared) (σ:St) (H:Hp) (x:V) (xs:List V) (v:Value) (us:List Value) (Q:VK),Inv X pins σ H s->RelV x v->Vals xs us->r x xs H Q->
  wpAny (model X.prog X.w) X.A (call (.builtin id) (v::us)) (EP X pins σ Q) X.xe s
theorem Vals.one:∀{x:V} {a:List Value},Vals [x] a->∃u,a=[u]/\RelV x u
 |_,_,.cons r .nil=>⟨_,rfl,r⟩
section
variable{X:Cx}{pins:aZ}{σ:St}{H:Hp}{s:Shared}{l b:Addr}{xs ys zs:List V}
theorem Inv.G2{its its':List Value}{n:Nat}{f:Array Value->Array Value}{t':Nat}(I:Inv X pins σ H s)(a:H l=some (.lst xs))
  (e:s.heap.get? l=some {cls:=.type "list",data:=.seq its.toArray n})(b:f its.toArray=its'.toArray)(c:Vals ys its')(hz:ys.length<=sizeLine):
  Inv X pins σ (upd H l (.lst ys)) {s with heap:=s.heap.update l (Obj.mapSeq f),toks:=t'}:=by
 have q:=PySem.IsL.update e f;rw[b] at q;refine I.write (x:=l) (e:=l) (by rw[a];exact trivial) (.inl rfl) (λh u d g=>(o5 s.heap (Obj.mapSeq f) (Ne.symm d)).trans g) ⟨_,q⟩ ?_;exact⟨hz,its',_,c,q⟩
theorem Inv.GZ{its:List Value}{t':Nat}(I:Inv X pins σ H s)(a:Vals ys its)(hz:ys.length<=sizeLine):
  Inv X pins σ (upd H s.heap.objs.size (.lst ys)) {s with heap:=s.heap.push {cls:=.type "list",data:=.seq its.toArray},toks:=t'}:=
 I.laid (λ_ _ q=>bu _ q) (aF _) ⟨hz,its,0,a,cu _ rfl⟩
theorem Inv.fresh(I:Inv X pins σ H s):H s.heap.objs.size=none:=I.hok.fresh (aF _)
theorem Inv.sF(I:Inv X pins σ H s)(a:H l=some (.lst xs)):xs.length<=sizeLine/\∃(its:List Value) (n:Nat),Vals xs its/\xs.length=its.length/\s.heap.get? l=some {cls:=.type "list",data:=.seq its.toArray n}:=by
 obtain⟨z,its,n,r,e⟩:=I.hok l _ a;exact⟨z,its,n,r,r.length,e⟩
theorem Tr{n:Nat}(h:n<=sizeLine):Builtin.List.listTooLong n=false:=by
 unfold Builtin.List.listTooLong;exact gu ω
end
section
variable{X:Cx}
noncomputable def H9:V->List V->Hp->VK->Prop:=λx vs H Q=>∃l xs y,x=.ref l/\vs=[y]/\H l=some (.lst xs)/\xs.length<sizeLine/\Q .aG (upd H l (.lst (xs++[y])))
theorem iY:yV X "list.append" H9:=by
 intro pins s σ H x vs v f Q I b c h;obtain⟨l,xs,y,rfl,rfl,a,hz,q⟩:=h;cases b;obtain⟨u,rfl,d⟩:=c.one;obtain⟨z,its,n,r,g,e⟩:=I.sF a;refine call_meets F.slot_list_append ⟨_,e,rfl⟩ F.entry_list_append (F.args_list_append_2 _ _) (PySem.list_append l its.toArray n u (by rw[cg];omega)) ⟨e,?_⟩;refine⟨.aG,_,I.G2 (its':=its++[u]) a e θ (r.append (.cons d .nil)) ?_,rfl,q⟩;rw[cM,yc];omega
noncomputable def Ib:V->List V->Hp->VK->Prop:=λx vs H Q=>∃l b xs zs,x=.ref l/\vs=[.ref b]/\H l=some (.lst xs)/\H b=some (.lst zs)/\xs.length+zs.length<=sizeLine/\Q .aG (upd H l (.lst (xs++zs)))
theorem v7:yV X "list.extend" Ib:=by
 intro pins s σ H x vs v p Q I f g h;obtain⟨l,b,xs,zs,rfl,rfl,d,i,hz,q⟩:=h;cases f;obtain⟨u,rfl,j⟩:=g.one;cases j;obtain⟨z,its,n,r,t,e⟩:=I.sF d;obtain⟨w,a,n2,k,m,o⟩:=I.sF i;have hsz:its.toArray.size+a.toArray.size<=sizeLine:=by rw[cg,cg];omega
 have c:¬(!its.toArray.isEmpty&&Builtin.List.listTooLong (its.toArray.size+a.toArray.size))=true:=by
  rw[Tr hsz,Bool.and_false];exact bU
 refine call_meets F.slot_list_extend ⟨_,e,rfl⟩ F.entry_list_extend (F.args_list_extend_2 _ _)
  (AutoSeq1.list_extend_list_list_0 l its.toArray n b a.toArray n2 c (by rw[cg];omega) ω) ⟨e,o,?_⟩
 refine⟨.aG,_,I.G2 (its':=its++a) d e θ (r.append k) ?_,rfl,q⟩;rw[cM];omega
noncomputable def H_:R2:=λx y H Q=>∃l b xs zs,x=.ref l/\y=.ref b/\H l=some (.lst xs)/\H b=some (.lst zs)/\xs.length+zs.length<=sizeLine/\∀p,H p=none->Q (.ref p) (upd H p (.lst (xs++zs)))
theorem TX:bL X (binaryOp .Add) H_:=by
 intro pins s σ H x y v u Q I c d h;obtain⟨l,b,xs,zs,rfl,rfl,f,g,hz,q⟩:=h;cases c;cases d;obtain⟨z,its,n,r,o,e⟩:=I.sF f;obtain⟨p,a,n2,i,j,k⟩:=I.sF g;refine PySem.P.add_list e k ?_ (by rw[cg,cg];omega);have m:its.toArray++a.toArray=(its++a).toArray:=θ
 rw[m];exact⟨.ref _,_,I.GZ (t':=s.toks) (r.append i) (by rw[cM];omega),rfl,q _ I.fresh⟩
end
section
variable{κ:Type}[DecidableEq κ]
noncomputable def fB(kvs:List (κ×V))(k:κ):Option V:=(kvs.find? λkv=>decide (kv.1=k)).map (·.2)
noncomputable def putK(kvs:List (κ×V))(k:κ)(v:V):List (κ×V):=
 if (kvs.any λkv=>decide (kv.1=k))=true then kvs.map (λkv=>if kv.1=k then (kv.1,v) else kv) else kvs++[(k,v)]
theorem Cb{p:κ×V}{r:List (κ×V)}{k:κ}(e:p.1=k):fB (p::r) k=some p.2:=by simp[fB,j9,e]
theorem Ca{p:κ×V}{r:List (κ×V)}{k:κ}(e:¬p.1=k):fB (p::r) k=fB r k:=by simp[fB,j9,e]
theorem KL(k:κ):∀kvs:List (κ×V),(kvs.any λa=>decide (a.1=k))=(fB kvs k).isSome
 |[]=>rfl
 |p::r=>by
  rw[oY];by_cases e:p.1=k
  .simp only[Cb e,eL e,Bool.true_or,Option.isSome_some]
  .rw[Ca e,gu e,Bool.false_or];exact KL k r
theorem AE(kvs:List (κ×V))(k:κ)(v:V):(putK kvs k v).length<=kvs.length+1:=by
 unfold putK;split
 .rw[aK];omega
 .rw[cM,gm,oJ];omega
theorem jL.sj{o:Option V}{u:Option Value}(r:jL o u):o.isSome=u.isSome:=by
 cases o with
 |none=>cases u with
  |none=>rfl
  |some _=>exact(show False from r).elim
 |some _=>cases u with
  |none=>exact(show False from r).elim
  |some _=>rfl
theorem KV.val{kvs:List (κ×V)}{vs:List (κ×Value)}(r:KV kvs vs)(k:κ):jL (fB kvs k) (valueAt vs k):=by
 unfold KV at r;induction r with
 |nil=>exact True.intro
 | @cons p q ps qs h t c=>
  obtain⟨h1,h2⟩:=h;by_cases e:p.1=k
  .have a:q.1=k:=h1.symm.trans e
   have b:valueAt (q::qs) k=some q.2:=by simp[valueAt,j9,a]
   rw[Cb e,b];exact h2
  .have a:¬q.1=k:=λz=>e (h1.trans z)
   have b:valueAt (q::qs) k=valueAt qs k:=by simp[valueAt,j9,a]
   rw[Ca e,b];exact c
theorem KV.any{kvs:List (κ×V)}{vs:List (κ×Value)}(r:KV kvs vs)(k:κ):(kvs.any λa=>decide (a.1=k))=vs.any λa=>decide (a.1=k):=by
 unfold KV at r;induction r with
 |nil=>rfl
 |cons h t b=>rw[oY,oY,b,h.1]
theorem KV.repl{kvs:List (κ×V)}{vs:List (κ×Value)}(r:KV kvs vs)(k:κ){y:V}{u:Value}(b:RelV y u):
  KV (kvs.map λa=>if a.1=k then (a.1,y) else a) (vs.map λa=>if a.1=k then (a.1,u) else a):=by
 unfold KV at r ⊢;induction r with
 |nil=>exact .nil
 | @cons p q ps qs h t c=>
  rw[cK,cK];refine .cons ?_ c;obtain⟨h1,h2⟩:=h;by_cases e:p.1=k
  .rw[aA e,aA (h1.symm.trans e)];exact⟨h1,b⟩
  .rw[ao e,ao (λz=>e (h1.trans z))];exact⟨h1,h2⟩
theorem KV.put{kvs:List (κ×V)}{vs:List (κ×Value)}(r:KV kvs vs)(k:κ){y:V}{u:Value}(a:RelV y u):KV (putK kvs k y) (stored vs k u):=by
 unfold putK stored;rw[r.any k];by_cases e:(vs.any λb=>decide (b.1=k))=true
 .rw[aA e,aA e];exact r.repl k a
 .rw[ao e,ao e];exact Paired.snoc r ⟨rfl,a⟩
theorem KV.keys{kvs:List (κ×V)}{vs:List (κ×Value)}(r:KV kvs vs):kvs.map (·.1)=vs.map (·.1):=by
 unfold KV at r;induction r with
 |nil=>rfl
 |cons h t a=>rw[cK,cK,a,h.1]
theorem KV.length{kvs:List (κ×V)}{vs:List (κ×Value)}(r:KV kvs vs):kvs.length=vs.length:=Paired.length r
end
theorem nW{P:Program}{w:World}{k:Key}{u:Value}(r:RelV (kV k) u):(dg P w).is k u=true:=by
 cases k with
 |inl i=>obtain⟨t,e⟩:=(show ∃t,u=Value.int i t from r);subst e;exact SN P w i t
 |inr x=>obtain⟨t,e⟩:=(show ∃t,u=Value.str x t from r);subst e;exact SO P w x t
theorem GC{P:Program}{w:World}:∀{ks:List Key} {a:List Value},Vals (ks.map kV) a->ItemsAre (dg P w) ks a
 |[],_,r=>by rw[map_nil] at r;cases r;exact .nil
 |k::ks,_,r=>by
  rw[cK] at r;cases r with
  |cons h t=>exact .cons (nW h) (GC t)
abbrev KT(H:Hp):List (List Key×V)->List (List Key×Addr×Value)->Prop:=Paired λp q=>p.1=q.1/\H q.2.1=some (.tup (p.1.map kV))/\RelV p.2 q.2.2
theorem KT.val{H:Hp}{kvs:List (List Key×V)}{xs:List (List Key×Addr×Value)}(r:KT H kvs xs)(k:List Key):jL (fB kvs k) ((atKey xs k).map (·.2)):=by
 induction r with
 |nil=>exact True.intro
 | @cons p q ps qs h t c=>
  obtain⟨h1,_,h2⟩:=h;by_cases e:p.1=k
  .have a:q.1=k:=h1.symm.trans e
   have b:atKey (q::qs) k=some q.2:=by simp[atKey,j9,a]
   rw[Cb e,b];exact h2
  .have a:¬q.1=k:=λz=>e (h1.trans z)
   have b:atKey (q::qs) k=atKey qs k:=by simp[atKey,j9,a]
   rw[Ca e,b];exact c
theorem KT.repl{H:Hp}{kvs:List (List Key×V)}{xs:List (List Key×Addr×Value)}(r:KT H kvs xs)(k:List Key){y:V}{u:Value}(b:RelV y u):
  KT H (kvs.map λa=>if a.1=k then (a.1,y) else a) (xs.map (putAt k u)):=by
 induction r with
 |nil=>exact .nil
 | @cons p q ps qs h t c=>
  rw[cK,cK];refine .cons ?_ c;obtain⟨h1,h2,d⟩:=h;unfold putAt;by_cases e:p.1=k
  .rw[aA e,aA (h1.symm.trans e)];exact⟨h1,h2,b⟩
  .rw[ao e,ao (λz=>e (h1.trans z))];exact⟨h1,h2,d⟩
theorem KT.put{H:Hp}{kvs:List (List Key×V)}{xs:List (List Key×Addr×Value)}(r:KT H kvs xs)(k:List Key){b:Addr}{y:V}{u:Value}(c:H b=some (.tup (k.map kV)))(a:RelV y u):
  KT H (putK kvs k y) (storedH xs k b u):=by
 have e:(kvs.any λd=>decide (d.1=k))=(atKey xs k).isSome:=by
  rw[KL,(r.val k).sj,isSome_map]
 unfold putK storedH;rw[e];by_cases q:(atKey xs k).isSome=true
 .rw[aA q,aA q];exact r.repl k a
 .rw[ao q,ao q];exact Paired.snoc r ⟨rfl,c,a⟩
theorem KT.keeps{H H':Hp}{kvs:List (List Key×V)}{xs:List (List Key×Addr×Value)}(r:KT H kvs xs)(a:∀b ys,H b=some (.tup ys)->H' b=some (.tup ys)):KT H' kvs xs:=
 Paired.kI r λ_ _ z=>⟨z.1,a _ _ z.2.1,z.2.2⟩
section
variable{P:Program}{w:World}{H:Hp}{h:Heap}{a:Addr}
theorem Iq{u:HO}(ok:cT P w H h)(e:Rd H a u):b9 P w H h a u:=e.ok ok
theorem nO{kvs:List (Key×V)}(ok:cT P w H h)(e:Rd H a (.dK kvs)):kvs.length<=sizeLine/\(a==sysModules)=false/\∃vs,KV kvs vs/\h.DictOf (dg P w) a vs:=
 show b9 P w H h a (.dK kvs) from Iq ok e
theorem vm{kvs:List (Key×V)}(ok:cT P w H h)(e:H a=some (.dK kvs)):kvs.length<=sizeLine/\(a==sysModules)=false/\∃vs,KV kvs vs/\h.DictOf (dg P w) a vs:=nO ok (.inl e)
theorem sy{ks:List Key}(ok:cT P w H h)(e:H a=some (.tup (ks.map kV))):(tupleKind (dg P w)).is h ks a:=by
 obtain⟨_,its,r,p⟩:=(show b9 P w H h a (.tup (ks.map kV)) from ok a _ e);obtain⟨o,h1,h2,n,b⟩:=p.is;exact⟨o,its.toArray,n,h1,h2,b,by simpa using GC r⟩
theorem rT{kvs:List (List Key×V)}(ok:cT P w H h)(e:Rd H a (.dT kvs)):kvs.length<=sizeLine/\(a==sysModules)=false/\
  ∃xs,KT H kvs xs/\h.DictOfH (tupleKind (dg P w)) a xs:=by
 obtain⟨z,y,xs,r,o,es,ep,h1,h2,c,d,f⟩:=(show b9 P w H h a (.dT kvs) from Iq ok e);refine⟨z,y,xs,r,o,es,ep,h1,h2,c,d,λx hx=>?_,f⟩;have all:∀{l:List (List Key×V)} {m:List (List Key×Addr×Value)},KT H l m->∀x∈m,(tupleKind (dg P w)).is h x.1 x.2.1:=by
  intro l m q;induction q with
  |nil=>intro x hx;exact nomatch hx
  | @cons p q ps qs b t g=>
   intro x hx;rcases aY.mp hx with e|hx
   .subst e
    exact sy ok (by rw[<-b.1];exact b.2.1)
   .exact g x hx
 exact all r x hx
theorem NP{kvs:List (List Key×V)}(ok:cT P w H h)(e:H a=some (.dT kvs)):kvs.length<=sizeLine/\(a==sysModules)=false/\
 ∃xs,KT H kvs xs/\h.DictOfH (tupleKind (dg P w)) a xs:=rT ok (.inl e)
end
def o8(H:Hp)(a:Addr)(y:V)(r:Option V):Prop:=
 (∃kvs k,Rd H a (.dK kvs)/\y=kV k/\r=fB kvs k)\/∃kvs k b,Rd H a (.dT kvs)/\y=.ref b/\H b=some (.tup (k.map kV))/\r=fB kvs k
def qU(H:Hp)(a:Addr)(y v:V)(H':Hp):Prop:=
 (∃kvs k,H a=some (.dK kvs)/\y=kV k/\kvs.length<sizeLine/\H'=upd H a (.dK (putK kvs k v)))\/
 ∃kvs k b,H a=some (.dT kvs)/\y= .ref b/\H b=some (.tup (k.map kV))/\kvs.length<sizeLine/\H'=upd H a (.dT (putK kvs k v))
theorem qU.k{H:Hp}{a:Addr}{kvs:List (Key×V)}{k:Key}{v:V}(e:H a=some (.dK kvs))(b:kvs.length<sizeLine):qU H a (kV k) v (upd H a (.dK (putK kvs k v))):=.inl ⟨kvs,k,e,rfl,b,rfl⟩
section
variable{X:Cx}{pins:aZ}{σ:St}{H:Hp}{s:Shared}{a:Addr}{y v:V}{u r:Value}{o:Option V}{A:Around}{E:aU}
theorem Inv.big(I:Inv X pins σ H s):sysModules<s.heap.objs.size:=by
 have h:mainGlobals<s.heap.objs.size:=(I.mod.glob.keeps I.bk).lt;exact lt_trans δ h
theorem M4{Q:aU}(n:A.units+1<cLine)(I:Inv X pins σ H s)(g:o8 H a y (some v))(m:RelV y u)(h:∀d s',Inv X pins σ H s'->RelV v d->Q d s'):
  wpAny (model X.prog X.w) A (getItem (.ref a) u) Q E s:=by
 rcases g with⟨kvs,k,e,f,l⟩|⟨kvs,k,b,e,f,q,l⟩
 .subst f
  obtain⟨z,hd,vs,rel,dd⟩:=nO I.hok e;obtain⟨d,i,c⟩:=jL.some_of (v:=v) (o:=valueAt vs k) (by rw[l];exact rel.val k);exact wpAny_getItem_of (nW m) dd.mapOf i (h d _ (I.tok _) c)
 .subst f
  cases (show u=Value.ref b from m);obtain⟨z,hd,xs,rel,dd⟩:=rT I.hok e;obtain⟨d,i,c⟩:=jL.some_of (v:=v) (o:=(atKey xs k).map (·.2)) (by rw[l];exact rel.val k);obtain⟨p,r,j⟩:=map_eq_some_iff.mp i;refine wpAny_getItem_heap (yq n) (sy I.hok q) dd r ?_;rw[j];exact h d _ (I.tok _) c
theorem M6{Q:aU}(f:A.units+1<cLine)(I:Inv X pins σ H s)(g:o8 H a y o)(d:RelV y u)(h:∀s',Inv X pins σ H s'->Q (.bool o.isSome) s'):
  wpAny (model X.prog X.w) A (compareOp .In u (.ref a)) Q E s:=by
 rcases g with⟨kvs,k,e,c,l⟩|⟨kvs,k,b,e,c,i,l⟩
 .subst c
  obtain⟨z,hd,vs,rel,dd⟩:=nO I.hok e;refine wpAny_in_of (nW d) hd dd.mapOf ?_;rw[<-(rel.val k).sj,<-l];exact h _ (I.tok _)
 .subst c
  cases (show u=Value.ref b from d);obtain⟨z,hd,xs,rel,dd⟩:=rT I.hok e;refine wpAny_in_heap (yq f) (sy I.hok i) hd dd ?_;have q:=(rel.val k).sj;rw[isSome_map] at q;rw[<-q,<-l];exact h _ (I.tok _)
theorem Na{Q:aU}(f:A.units+1<cLine)(I:Inv X pins σ H s)(g:o8 H a y o)(d:RelV y u)(h:∀s',Inv X pins σ H s'->Q (.bool (!o.isSome)) s'):
  wpAny (model X.prog X.w) A (compareOp .NotIn u (.ref a)) Q E s:=by
 rcases g with⟨kvs,k,e,c,l⟩|⟨kvs,k,b,e,c,i,l⟩
 .subst c
  obtain⟨z,hd,vs,rel,dd⟩:=nO I.hok e;refine wpAny_notIn_of (nW d) hd dd.mapOf ?_;rw[<-(rel.val k).sj,<-l];exact h _ (I.tok _)
 .subst c
  cases (show u=Value.ref b from d);obtain⟨z,hd,xs,rel,dd⟩:=rT I.hok e;refine wpAny_notIn_heap (yq f) (sy I.hok i) hd dd ?_;have q:=(rel.val k).sj;rw[isSome_map] at q;rw[<-q,<-l];exact h _ (I.tok _)
theorem u7{h':Heap}{t':Nat}{c:HO}(I:Inv X pins σ H s)(d:ri (H a))(f:SameBut a s.heap h')(g:∃q,h'.get? a=some q)(new:b9 X.prog X.w (upd H a c) h' a c):
  Inv X pins σ (upd H a c) {s with heap:=h',toks:=t'}:=
 I.write (x:=a) (e:=a) d (.inl rfl) (λb q h z=>(f.2 b h).trans z) g new
theorem zU{P:Program}{w:World}{H':Hp}{h':Heap}{kvs:List (Key×V)}{vs:List (Key×Value)}(z:kvs.length<=sizeLine)(hd:(a==sysModules)=false)(rel:KV kvs vs)(dd:h'.DictOf (dg P w) a vs):
 b9 P w H' h' a (.dK kvs):=⟨z,hd,vs,rel,dd⟩
theorem Nc{H':Hp}{Q:Unit->Shared->Prop}(B:A.units+1<cLine)(I:Inv X pins σ H s)(g:qU H a y v H')(o:RelV y u)(p:RelV v r)(h:∀s',Inv X pins σ H' s'->Q () s'):
  wpAny (model X.prog X.w) A (setItem (.ref a) u r) Q E s:=by
 rcases g with⟨kvs,k,e,i,l,j⟩|⟨kvs,k,b,e,i,t,l,j⟩
 .subst i j
  obtain⟨z,hd,vs,rel,dd⟩:=vm I.hok e;have hz:vs.length<=sizeLine:=by rw[<-rel.length];exact z
  have m:(putK kvs k v).length<=sizeLine:=by have:=AE kvs k v;omega
  refine wpAny_setItem_pairs (hsz:=hz) (nW o) dd λh' d n=>h _ ?_;have C:∃q,h'.get? a=some q:=let ⟨q,_,_,f,_⟩:=d;⟨q,f⟩;exact u7 I (by rw[e];exact True.intro) n C (zU m hd (rel.put k p) d)
 .subst i j
  cases (show u=Value.ref b from o);obtain⟨z,hd,xs,rel,dd⟩:=NP I.hok e;have hz:xs.length<=sizeLine:=by rw[<-Paired.length rel];exact z
  have m:(putK kvs k v).length<=sizeLine:=by have:=AE kvs k v;omega
  refine wpAny_setItem_heap (hsz:=hz) (yq B) (sy I.hok t) dd λh' d n=>h _ ?_;obtain⟨q,es,ep,f,h2,D,F,_,G⟩:=d;refine u7 I (by rw[e];exact True.intro) n ⟨q,f⟩ ⟨m,hd,_,(rel.put k t p).keeps λc ys x=>?_,q,es,ep,f,h2,D,F,G⟩;rw[bf (S6 x e (λz=>nomatch z))];exact x
end
section
variable{X:Cx}{pins:aZ}{σ:St}{H:Hp}{s:Shared}{a:Addr}{kvs:List (Key×V)}{k:Key}{u:Value}{A:Around}{E:aU}
theorem ia{Q:aU}(I:Inv X pins σ H s)(e:Rd H a (.dK kvs))(h:∀t s',Inv X pins σ H s'->Q (.int kvs.length t) s'):wpAny (model X.prog X.w) A (call (.builtin "len") [.ref a]) Q E s:=by
 obtain⟨z,hd,vs,rel,dd⟩:=nO I.hok e;refine call_len_dict hd dd (by rw[<-rel.length];rw[lT] at z;omega) ?_;rw[<-rel.length];exact h _ _ (I.tok _)
end
theorem Nz{X:Cx}{pins:aZ}{σ:St}{H:Hp}{s:Shared}{a:Addr}{y:V}{o:Option V}(I:Inv X pins σ H s)(g:o8 H a y o):s.TypeIs (.ref a) "dict":=by
 rcases g with⟨kvs,k,e,_,_⟩|⟨kvs,k,b,e,_,_,_⟩
 .obtain⟨_,_,vs,_,dd⟩:=nO I.hok e
  exact dd.typeIs
 .obtain⟨_,_,xs,_,dd⟩:=rT I.hok e
  exact dd.typeIs
def Wc(td ty tv:TE):TS:=λD σ H=>tv σ H λv H1=>td σ H1 λx H2=>ty σ H2 λy H3=>∃a H4,x=.ref a/\qU H3 a y v H4/\D.nx σ H4
section
variable{X:Cx}{o i e value:Expr}{pos pos' tpos:Pos}{td ty tv:TE}
theorem Vo(b:X.A.units+1<cLine)(c:PE X o td)(hi:PE X i ty)(d:PE X value tv)(e:swapsWith value (some (.Subscript o i pos')) pos.line X.env=pure false):
  PS X (.Assign [.Subscript o i pos'] value pos) (Wc td ty tv):=by
 intro pins s σ H D I h;refine wpAny_Assign_Subscript (aJ (d pins s σ H _ I h) λr f ⟨v,H1,j,k,l⟩=>aJ (c pins f σ H1 _ j l) λu m ⟨x,H2,n,p,q⟩=>aJ (hi pins m σ H2 _ n q) λE F ⟨y,G,t,w,a,z,ex,g,B⟩=>?_) e;subst ex;obtain rfl:u=Value.ref a:=p;exact Nc b t g w k λs4 C=>⟨σ,z,C,B⟩
end
theorem Fd{P:Program}{w:World}{H:Hp}(h:Heap)(a:sysModules<h.objs.size):b9 P w H (h.push {cls:=.type "dict",data:=.dict #[]}) h.objs.size (.dK []):=
 ⟨bQ _,beq_eq_false_iff_ne.mpr (Ne.symm (bB a)),[],.nil,DictOf.new h⟩
def Yd:TE:=λ_ H Q=>∀p,H p=none->Q (.ref p) (upd H p (.dK []))
section
variable{X:Cx}{pos:Pos}
theorem UA:PE X (.Dict [] [] pos) Yd:=λpins s σ H Q I h=>
 wpAny_Dict_empty ⟨.ref s.heap.objs.size,_,I.laid (a:=s.heap.objs.size) (o:=.dK []) (t':=s.toks) (λ_ _ q=>bu _ q) (aF _) (Fd s.heap I.big),rfl,h _ (I.hok.fresh (aF _))⟩
end
noncomputable def BP:List (TE×TE)->St->Hp->(List (V×V)->Hp->Prop)->Prop
 |[],_,H,Q=>Q [] H
 |(tk,tv)::r,σ,H,Q=>tk σ H λx H1=>tv σ H1 λy H2=>BP r σ H2 λps H3=>Q ((x,y)::ps) H3
abbrev VV:List (V×V)->List (Value×Value)->Prop:=Paired λp q=>RelV p.1 q.1/\RelV p.2 q.2
def uI(X:Cx)(pos:Pos)(keys:List (Option Expr))(values:List Expr)(BY:List (TE×TE)):Prop:=
 ∀(pins:aZ) (s:Shared) (σ:St) (H:Hp) (Q:List (V×V)->Hp->Prop),Inv X pins σ H s->BP BY σ H Q->
  wpAny (model X.prog X.w) X.A (evalPairs (pairTrees keys values X.env pos)) (λvs s'=>∃ps H',Inv X pins σ H' s'/\VV ps vs/\Q ps H') X.xe s
theorem Vj{X:Cx}{pos:Pos}:uI X pos [] [] []:=λpins s σ H Q I h=>pairTrees_nil_walk ⟨[],H,I,.nil,h⟩
theorem Vi{X:Cx}{pos:Pos}{k v:Expr}{ks:List (Option Expr)}{vs:List Expr}{b tv:TE}{a:List (TE×TE)}(c:PE X k b)(d:PE X v tv)(e:uI X pos ks vs a):
  uI X pos (some k::ks) (v::vs) ((b,tv)::a):=λpins s σ H Q I h=>
 pairTrees_cons_walk (aJ (c pins s σ H _ I h) λu f ⟨x,H1,g,i,j⟩=>aJ (d pins f σ H1 _ g j) λt l ⟨y,H2,m,n,o⟩=>
  aJ (e pins l σ H2 _ m o) λws w ⟨ps,p,q,rel,r⟩=>⟨(x,y)::ps,p,q,.cons ⟨i,n⟩ rel,r⟩)
noncomputable def kJ(kvs more:List (Key×V)):List (Key×V):=more.foldl (λacc kv=>putK acc kv.1 kv.2) kvs
theorem KV.merge:∀{a:List (Key×V)} {rs:List (Key×Value)} {kvs:List (Key×V)} {vs:List (Key×Value)},KV a rs->KV kvs vs->KV (kJ kvs a) (merged vs rs):=by
 intro a rs kvs vs r;unfold KV at r;induction r generalizing kvs vs with
 |nil=>intro q;exact q
 | @cons p q ps qs h t b=>
  intro c;have e:KV (putK kvs p.1 p.2) (stored vs q.1 q.2):=by
   have:=c.put p.1 h.2;rw[<-h.1];exact this
  exact b e
theorem AD:∀(a kvs:List (Key×V)),(kJ kvs a).length<=kvs.length+a.length
 |[],kvs=>by show kvs.length<=kvs.length+0;omega
 |p::r,kvs=>by
  have h1:=AD r (putK kvs p.1 p.2);have h2:=AE kvs p.1 p.2;show(kJ (putK kvs p.1 p.2) r).length<=_;rw[gm];omega
theorem Eo{P:Program}{w:World}:∀{kvs:List (Key×V)} {ws:List (Value×Value)},VV (kvs.map λd=>(kV d.1,d.2)) ws->∃rs,Carries (dg P w) ws rs/\KV kvs rs
 |[],_,r=>by rw[map_nil] at r;cases r;exact⟨[],True.intro,.nil⟩
 |p::kvs,_,r=>by
  rw[cK] at r;cases r with
  | @cons a b as bs h t=>
   obtain⟨rs,c,q⟩:=Eo (P:=P) (w:=w) t;obtain⟨f,e⟩:=b;exact⟨(p.1,e)::rs,⟨nW h.1,rfl,c⟩,.cons ⟨rfl,h.2⟩ q⟩
def Ye(BY:List (TE×TE)):TE:=λσ H Q=>∀p,H p=none->BP BY σ (upd H p (.dK [])) λps H2=>H2 p=some (.dK [])/\∃kvs:List (Key×V),ps=kvs.map (λkv=>(kV kv.1,kv.2))/\kvs.length<=15/\Q (.ref p) (upd H2 p (.dK (kJ [] kvs)))
theorem Uz{X:Cx}{pos:Pos}{keys:List (Option Expr)}{values:List Expr}{b:List (TE×TE)}(h:uI X pos keys values b)(d:keys.all (·.isSome)=true)(j:keys.length=values.length)(h0:keys≠[])
  (g:keys.length<=15):PE X (.Dict keys values pos) (Ye b):=by
 intro pins s σ H Q I q;have k:=I.hok.fresh (aF s.heap.objs.size);have l:=I.laid (a:=s.heap.objs.size) (o:=.dK []) (h':=s.heap.push {cls:=.type "dict",data:=.dict #[]}) (t':=s.toks) (λ_ _ q=>bu _ q) (aF _) (Fd s.heap I.big);refine wpAny_Dict_walk (knd:=dg X.prog X.w) d j h0 g (aJ (h pins _ σ _ _ l (q _ k)) λws x ⟨ps,H2,i,rel,e,kvs,ep,lk,m⟩=>?_);subst ep;obtain⟨rs,c,n⟩:=Eo (P:=X.prog) (w:=X.w) rel;obtain⟨z,hd,p,r,dd⟩:=vm i.hok e;cases r;refine⟨rs,c,dd,λh' f t=>⟨.ref s.heap.objs.size,_,?_,rfl,m⟩⟩;have hz:(kJ [] kvs).length<=sizeLine:=by
  have h1:=AD kvs [];rw[oJ] at h1;rw[lT];omega
 have u:∃q,h'.get? s.heap.objs.size=some q:=let ⟨q,_,_,v,_⟩:=f;⟨q,v⟩;exact u7 i (by rw[e];exact True.intro) t u (zU hz hd (n.merge .nil) f)
end L2
end
namespace CC
open PySem PySem.W PySem.Calls PyProof.Rows
theorem Rb{P:Params}{h:Heap}:∀(ns:List Int) (vs:List Value),WellAll P h vs (ns.map WData.int)->IntsAre vs ns:=by
 intro ns;induction ns with
 |nil=>
  intro vs w;rw[map_nil] at w;cases w;exact .nil
 |cons n ns c=>
  intro vs w;rw[cK] at w;cases w with
  |cons a b=>
   cases a;exact .cons _ _ (c _ b)
theorem Xm{l:OpenLaw}{n:Nat}(k:l.most=some n){P:Params}{h:Heap}{args:List WData}{vals:List Value}
  (b:l.row.toRowW.claim.pre args=true)(i:WellAll P h vals args):
  ∃a vs ns,vals=[Value.ref a]/\args=[WData.list (ns.map WData.int)]/\h.get? a=some {cls:=.type "list",data:=.seq vs.toArray}/\IntsAre vs ns/\ns.length<=n:=by
 have j:WShape.hasAll [] args [.list .int]=true:=(pre_splitW b).1;have hc:l.pre.holds [] {args:=args}=true:=(pre_splitW b).2;obtain⟨d,r,rfl,h1,h2⟩:=hasAllW_cons j;obtain rfl:=hasAllW_nil h2;obtain⟨xs,rfl,m⟩:=hasW_list h1;obtain⟨ns,rfl⟩:=items_int m;have c:ns.length<=n:=by
  unfold OpenLaw.pre at hc;have f:(WTm.not (.lt (.lit (.int (n:Int))) (.len (.arg 0)))).holds [] {args:=[.list (ns.map .int)]}=true:=by
   have f:=(holds_andW hc).1;rw[k] at f;exact f
  have g:=condW_of f (w_not (w_lt w_lit (w_len_list (w_arg rfl))));rw[aK] at g;refine Nat.le_of_not_lt λq=>?_;have o:(n:Int)<((ns.length:Nat):Int):=ω
  first
   |(rw[eL o] at g;exact absurd g δ)
   |(simp at g;omega)
 cases i with
 |cons p s=>
  cases s;cases p with
  |list t e=>exact⟨_,_,ns,rfl,rfl,t,Rb ns _ e,c⟩
theorem Ve(l:OpenLaw)(args:List WData):l.row.toRowW.claim.post args (.bool true) args=true:=
 postW_of (r:=l.row.toRowW) (X:=(true==true))
  (show WShape.has [] (.bool true) .bool=true by first|rfl|decide|simp[WShape.has,WShape.arms,WShape.armsAll])
  (show(WTm.eq .res (.lit (.bool true))).value [] {args:=args,res:=some (.bool true),after:=args}=some (.bool (true==true)) from w_eq_bool (w_res rfl) w_lit) rfl
theorem LW{l:OpenLaw}{n:Nat}{q:Program}{loose:List Str}{p:(aB)->Heap->Prop}{s:World->Heap->Prop}{d:DefRec}
  (v:l.most=some n)(i:d.params.defaults=[])
  (call:∀(w:World) (s₀ b:Shared) (mg mb:aB) (c:Addr) (o:Obj) (pm cd doc:Value) (a:Addr) (vs:List Value) (ns:List Int),
   Ground q loose [] p w s₀ mg mb b.heap->s w b.heap->
   b.heap.get? c=some o->o.data= .func (docDef d.name d.params d.body d.scope pm cd doc)->b.heap.CodeRec cd d.name->mg d.name=some (.ref c)->
   b.heap.get? a=some {cls:= .type "list",data:= .seq vs.toArray}->IntsAre vs ns->ns.length<=n->b.gens= #[]->
   codeAny (model l.prog w) callerA (.call (.ref c) ⟨[.ref a],[]⟩) (λr s'=>r= .ok (.ret (.bool true))/\OldK b.heap s'.heap/\s'.os=b.os/\AllBare s'.gens) b):
  WalkO q loose p s l.row.toRowW d [] (λf vs=>PySem.call f vs):=by
 intro w s₀ b mg mb G Y c o pm cd doc x kV y hd j t k z args vals as e u A m B
 obtain rfl:x= .none:=Dflts.none t i
 obtain rfl:kV= .none:=Dflts.noKw t
 obtain⟨a,vs,ns,rfl,rfl,g,hints,h⟩:=Xm v e m
 refine enter_call (nB (call w s₀ b mg mb c o pm cd doc a vs ns G Y y (fd_plain hd) j k g hints h z) λr s' C=> ?_)
 obtain⟨rfl,h2,D,E⟩:=C
 exact⟨.inl ⟨.bool true,.bool true,[],rfl,λ_=>rfl,.bool true,Ve l _,λ_=>⟨Pairwise.nil,λ_ F=>(nomatch F)⟩⟩,h2,D,E⟩
end CC
section
open PySem PySem.Spec PyProof.Rows
namespace L2
theorem KN:∀{vs:List Value} {ns:List Int},IntsAre vs ns->Vals (ns.map V.int) vs
 |_,_,.nil=>.nil
 |_,_,.cons n t h=>.cons ⟨t,rfl⟩ (KN h)
def uH(H:Hp):Prop:=∀b,H b=none\/∃o xs,H b=some (.bT o (.lst xs))
theorem R9{P:Program}{w:World}{K:Frag}{mg mb:aB}{CX:ji}{k:Nat}{D a:Addr}{fd:FuncData}{x:Str}{sp:Sp}{c:Shared}{vs:List Value}{ns:List Int}
  (N:K.In c.heap)(l:c.heap.Ns mainGlobals mg)(g:c.heap.Ns builtinsNs mb)(E:∀x:Str,x≠"__name__"->mb x=bootBuiltins x)(p:c.heap.NoLimit)(U:c.gens= #[])
  (C:c.heap.get? a=some {cls:= .type "list",data:= .seq vs.toArray})(hi:IntsAre vs ns)(O:ns.length<=sizeLine)(W:dW k callerA)
  (F:∀base:Heap,K.In base->base.Ns mainGlobals mg->gb P w K mg base CX k D fd [x] sp)(j:∀(s:Shared) (u:Value),BindsTo s fd ⟨[u],[]⟩ [(x,u)])
  (G:∀H:Hp,uH H->aV K H a (ns.map V.int)->sp [.ref a] H (λv _=>v= .bl true) λ_ _ _=>False)
  (I:∀H e s',CX [] H c (λ_ _ _=>False) e s'->False):
  codeAny (model P w) callerA (.call (.ref D) ⟨[.ref a],[]⟩) (λr s'=>r= .ok (.ret (.bool true))/\OldK c.heap s'.heap/\s'.os=c.os/\AllBare s'.gens) c:=by
 have Q:=KN hi
 have t:=hi.length
 have core:∀H:Hp,uH H->aV K H a (ns.map V.int)->cT P w H c.heap->(∀b,H b≠none->b=a)->(H a≠none->K.lookup a=none)->
   codeAny (model P w) callerA (.call (.ref D) ⟨[.ref a],[]⟩) (λr s'=>r= .ok (.ret (.bool true))/\OldK c.heap s'.heap/\s'.os=c.os/\AllBare s'.gens) c:=by
  intro H R X hok S Y
  have f:∀{b:Addr} {o:Obj},c.heap.get? b=some o->H b=none->(lE c.heap H).get? b=some o:=λe n=>Qz e n
  have J:∀{b:Addr} {o:Obj} {es:Array DictEntry} {ep:Nat},c.heap.get? b=some o->o.data= .dict es ep->H b=none:=λ {b o es ep} e d=>by
   cases q:H b with
   |none=>rfl
   |some u=>
    have L:b=a:=S b (by rw[q];simp)
    subst L
    rw[C] at e;cases e
    have d':Data.seq vs.toArray _=Data.dict es ep:=d
    cases d'
  have i:∀{b:Addr} {m:aB},c.heap.Ns b m->(lE c.heap H).Ns b m:=λ {b m} ⟨o,es,ep,e,d,r⟩=>⟨o,es,ep,f e (J e d),d,r⟩
  have y:K.In (lE c.heap H):=λb o e=>f (N b o e) (by
   cases q:H b with
   |none=>rfl
   |some u=>
    have L:b=a:=S b (by rw[q];simp)
    subst L
    rw[Y (by rw[q];simp)] at e;cases e)
  have Z:Mod K mg (lE c.heap H):=⟨y,i l,⟨mb,i g,E⟩,let ⟨mc,h1,h2⟩:=p;⟨mc,i h1,h2⟩⟩
  have e0:uA P w K mg (lE c.heap H) callerA [] c H:=⟨rfl,Z,λb o e=>TN e,Nat.le_of_eq (QA _ _),trivial,λb g=>absurd (show b∈([]:List Addr) from g) θ,hok,.of_eq U⟩
  refine nB ((F _ y (i l)).run callerA [] c H ⟨[.ref a],[]⟩ [.ref a] [.ref a] _ _ W e0 (j c (.ref a)) (.cons rfl .nil) (G H R X)) λr s' h=> ?_
  cases r with
  |error e=>exact(I H e s' h).elim
  |ok fl=>
   cases fl with
   |next=>exact False.elim h
   |brk=>exact False.elim h
   |cont=>exact False.elim h
   |ret u=>
    obtain⟨v,H',os,bare,un,A,r',q⟩:=h
    have q':v= .bl true:=q
    subst q'
    obtain rfl:u=Value.bool true:=r'
    refine⟨rfl,OldK.of_keep λb o e=> ?_,os,bare⟩
    cases q:H b with
    |none=>exact un.keep b o e q (by intro z;exact absurd (show b∈([]:List Addr) from z) θ) θ
    |some u=>
     rcases R b with z|⟨ob,xs,z⟩
     .rw[q] at z;cases z
     .have z2:=un.gP b ob _ z
      obtain⟨T,_⟩:=hok b _ z
      obtain⟨e2,_⟩:=A b _ z2
      rw[e] at T;cases T
      exact e2
 cases M:K.lookup a with
 |some o=>
  have e:=N a o M
  rw[C] at e
  cases e
  refine core (λ_=>none) (λ_=> .inl rfl) (.inr ⟨_,vs.toArray,_,M,rfl,rfl,rfl,by rw[cg,t];exact O,by simpa using Q⟩) (λb u z=>by have B:(none:Option HO)=some u:=z;cases B) (λb z=>absurd rfl z) λz=>absurd rfl z
 |none=>
  refine core (λb=>if b=a then some (.bT {cls:= .type "list",data:= .seq vs.toArray} (.lst (ns.map V.int))) else none) (λb=> ?_) (.inl (.inr ⟨{cls:= .type "list",data:= .seq vs.toArray},aA rfl⟩)) (λb u z=> ?_) (λb z=> ?_) λ_=>M
  .by_cases g:b=a
   .exact .inr ⟨_,_,aA g⟩
   .exact .inl (ao g)
  .by_cases g:b=a
   .have B:=(aA g).symm.trans z
    cases B
    subst g
    exact⟨C,by rw[aK];exact O,vs,_,Q,C⟩
   .have B:=(ao g).symm.trans z
    cases B
  .by_cases g:b=a
   .exact g
   .exact absurd (ao g) z
theorem Y7{l:PySem.W.OpenLaw}{n k:Nat}{q:Program}{loose:List Str}{C:(aB)->Heap->Prop}{A:World->Heap->Prop}{d:DefRec}{K:Params->Frag}{CX:World->ji}{sp:World->Sp}{x:Str}
  (D:l.most=some n)(p:n<=sizeLine)(r:d.params.defaults=[])(E:dW k callerA)
  (I:∀(w:World) (h:Heap),A w h->(K w.params).In h)
  (F:∀(w:World) (mg:aB) (m:Addr) (h:Heap),(K w.params).In h->h.Ns mainGlobals mg->mg d.name=some (.ref m)->
   ∃fd:FuncData,(∀(s:Shared) (u:Value),BindsTo s fd ⟨[u],[]⟩ [(x,u)])/\
    ∀base:Heap,(K w.params).In base->base.Ns mainGlobals mg->gb l.prog w (K w.params) mg base (CX w) k m fd [x] (sp w))
  (t:∀(w:World) (H:Hp) (a:Addr) (ns:List Int),ns.length<=n->uH H->aV (K w.params) H a (ns.map V.int)->sp w [.ref a] H (λv _=>v= .bl true) λ_ _ _=>False)
  (y:∀(w:World) (H:Hp) (s:Shared) (e:Value) (s':Shared),CX w [] H s (λ_ _ _=>False) e s'->False):
  PySem.W.WalkO q loose C A l.row.toRowW d [] (λf vs=>PySem.call f vs):=by
 refine CC.LW D r λw s₀ i mg mb m o pm cd doc a vs ns G Y Q hd J z j hints c L=> ?_
 have B:=I w _ Y
 obtain⟨fd,M,N⟩:=F w mg m _ B G.T.g z
 exact R9 B G.T.g G.T.b G.T.builtins G.T.nolimit L j hints (cC c p) E N M (λH O P=>t w H a ns c O P) λH e s'=>y w H i e s'
noncomputable def mK(s:Stmt):Arguments:=match s with
 |.FunctionDef _ a _ _ _ _ _ _ _ _=>a
 |_=>{posonlyargs:=[],args:=[],vararg:=none,kwonlyargs:=[],kw_defaults:=[],kwarg:=none,defaults:=[]}
noncomputable def iD(s:Stmt):List Stmt:=match s with
 |.FunctionDef _ _ b _ _ _ _ _ _ _=>b
 |_=>[]
noncomputable def aI(s:Stmt):Scope:=match s with
 |.FunctionDef _ _ _ _ _ _ sc _ _ _=>sc
 |_=>{kind:=.function,names:=[],isGenerator:=false,isCoroutine:=false}
structure k8(K:Frag)(x qual:Str)(st:Stmt)(f:Addr)(fd:FuncData):Prop where
 ex:∃(oc:Value) (od:Option Addr) (kV doc pm:Value) (an:Option Addr) (cdv ct:Value) (osl:Array (Option Value)),
  fd=fnOf x qual (mK st) (iD st) (aI st) .none kV doc pm an cdv ct/\K.lookup f=some ⟨oc,od,.func fd,osl⟩/\codeIn K cdv qual=true
 kp:keepIn K (.ref f)=true
section
variable{P:Program}{w:World}{K:Frag}{mg:aB}{base:Heap}
theorem k8.binds{x qual:Str}{st:Stmt}{f:Addr}{fd:FuncData}{ps:List Str}(F:k8 K x qual st f fd)
  (h:∀(kV doc pm:Value) (an:Option Addr) (a ct:Value) (b:List Value),b.length=ps.length->bindArgs (fnOf x qual (mK st) (iD st) (aI st) .none kV doc pm an a ct) ⟨b,[]⟩=pure (ps.zip b)):Binds K fd ps []:=by
 obtain⟨e,g,kV,doc,pm,an,a,ct,c,rfl,lk,d⟩:=F.ex;exact .all (h kV doc pm an a ct)
theorem z_{x qual:Str}{st:Stmt}{f:Addr}{d:Value}{e an:Option Addr}{b:Array (Option Value)}{kV doc pm a ct:Value}(l:K.lookup f=some ⟨d,e,.func (fnOf x qual (mK st) (iD st) (aI st) .none kV doc pm an a ct),b⟩)
 (c:codeIn K a qual=true)(k:keepIn K (.ref f)=true):k8 K x qual st f (fnOf x qual (mK st) (iD st) (aI st) .none kV doc pm an a ct):=⟨⟨d,e,kV,doc,pm,an,a,ct,b,rfl,l,c⟩,k⟩
end
section
variable{X:Cx}
theorem Mc:eN X (.builtin "len") (λxs H Q=>∃a kvs,xs=[V.ref a]/\H a=some (.dK kvs)/\Q (.int kvs.length) H):=by
 intro pins s σ H xs e Q I r h;obtain⟨a,kvs,rfl,b,q⟩:=h;obtain⟨u,rfl,c⟩:=vals1 r;cases c;exact ia I (.inl b) λt s' d=>⟨.int kvs.length,H,d,⟨t,rfl⟩,q⟩
end
theorem Ri{A B:Prop}(h:B):if false=true then A else B:=by
 rw[ao bU];exact h
theorem Rj{A B:Prop}(h:A):if true=true then A else B:=by
 rw[aA rfl];exact h
def k_(H H':Hp):Prop:=∀b o,H b=some o->H' b=some o
end L2
end
namespace PySem
open Sem (wp)
namespace ZL
abbrev kg(h:Heap)(z TI TO:Addr)(f0 f1:Value):Prop:=
 h.get? z=some {cls:=.type "zip",dict:=none,data:=.fields #[f0,f1,.bool false,.ref TI,.ref TO],slots:= #[]}
section
variable{prog:Program}{w:World}{A:Around}{E:aU}{s:Shared}
theorem Ze{z TI TO i1 i2 l1 l2 T:Addr}{F:Obj}{m:Bool}{k1 k2:Nat}{xs ys:Array Value}{x y:Value}{Q:aU}(D:ZipApart z TI TO i1 i2 l1 l2)
  (hz:kg s.heap z TI TO (rawInt T) (.bool m))(H:s.heap.get? T=some F)(I:T≠z)(n:IsPair s.heap TI (.ref i1) (.ref i2))
  (h1:s.heap.IsListIter i1 l1 k1)(h2:s.heap.IsListIter i2 l2 k2)(q:s.heap.IsList l1 xs)(t:s.heap.IsList l2 ys)(J:xs[k1]? =some x)(K:ys[k2]? =some y)
  (L:∀h',kg h' z TI TO (rawInt T) (.bool true)->h'.IsListIter i1 l1 (k1+1)->h'.IsListIter i2 l2 (k2+1)->IsPair h' s.heap.objs.size x y->h'.objs.size=s.heap.objs.size+1->
   (∀c o,c≠z->c≠i1->c≠i2->s.heap.get? c=some o->h'.get? c=some o)->Q (.ref s.heap.objs.size) {s with heap:=h'}):
  wpAny (model prog w) A (Builtin.«zip.__next__» ⟨[.ref z],[]⟩) (λfin s'=>∃v,fin= .done (.ret v)/\Q v s') E s:=by
 show wpAny _ _ (field (.ref z) 2>>=_) _ _ _
 refine ah (jY hz rfl (x:= .bool false) rfl ?_)
 show wpAny _ _ (field (.ref z) 3>>=_) _ _ _
 refine ah (jY hz rfl (x:= .ref TI) rfl ?_)
 refine ah (ug n rfl ?_)
 show wpAny _ _ (Builtin.SmallTypes.ownedTupleIsFree (.ref z)>>=_) _ _ _
 have first:wpAny (model prog w) A (Builtin.SmallTypes.ownedTupleIsFree (.ref z)) (λb s'=>b=false/\∃f,s'={s with heap:=f}/\kg f z TI TO (rawInt T) (.bool true)/\SameBut z s.heap f) E s:=by
  unfold Builtin.SmallTypes.ownedTupleIsFree
  refine ah (jY hz rfl (x:=rawInt T) rfl ?_)
  show wpAny _ _ (loadIfAlive ((T:Int)).toNat>>=_) _ _ _
  have M:∀{R:Option Obj->Shared->Prop},R (some F) s->wpAny (model prog w) A (loadIfAlive ((T:Int)).toNat) R E s:=λ {R} h=>by
   intro O p _
   unfold loadIfAlive
   rw[Sem.wp_loadIfAlive,qE,H]
   exact h
  refine ah (M ?_)
  rw[ao θ]
  refine ah (jY hz rfl (x:= .bool m) rfl ?_)
  cases m with
  |true=>exact aD ⟨rfl,s.heap,rfl,hz,.refl ..⟩
  |false=>
   show wpAny _ _ (setField (.ref z) 1 (.bool true)>>=_) _ _ _
   exact ah (wpAny_setField_rec hz θ λf i a=>aD ⟨rfl,f,rfl,i,a⟩)
 refine ah (kU first (λb s' N=> ?_) λ_ _ e=>e)
 obtain⟨rfl,f,rfl,i,a⟩:=N
 show wpAny _ _ (forIn _ _ _>>=_) _ _ _
 refine ah ?_
 rw[<-Array.forIn_toList]
 simp only[forIn_cons,forIn_nil]
 refine ah (ah (fS ?_))
 show wpAny _ _ (Builtin.SmallTypes.nextOf (.ref i1)>>=_) _ _ _
 refine ah (Cn (h1.extBut a.extBut D.i1z) (q.extBut a.extBut D.l1z) J λG k d=>aD (aD ?_))
 refine ah (ah (fS ?_))
 show wpAny _ _ (Builtin.SmallTypes.nextOf (.ref i2)>>=_) _ _ _
 refine ah (Cn ((h2.extBut a.extBut D.i2z).extBut d.extBut D.i12.symm) ((t.extBut a.extBut D.l2z).extBut d.extBut D.l2i1) K λj l g=>aD (aD (aD ?_)))
 show wpAny _ _ (newTuple [x,y]>>=λr=>ret r) _ _ _
 have hsz:j.objs.size=s.heap.objs.size:=by rw[g.1,d.1,a.1]
 refine ah (gE (aD ⟨_,rfl,?_⟩) (by show 2<=sizeLine;decide))
 show Q (.ref j.objs.size) _
 rw[hsz]
 have up:∀c o,c≠z->c≠i1->c≠i2->s.heap.get? c=some o->j.get? c=some o:=λc o u B C e=>g.extBut _ _ C (d.extBut _ _ B (a.extBut _ _ u e))
 refine L _ (bu _ (g.extBut _ _ D.i2z.symm (d.extBut _ _ D.i1z.symm i))) ((k.extBut g.extBut D.i12).at λo e=>bu _ e) (l.at λo e=>bu _ e) ?_ (by rw[fR,hsz]) λc o u B C e=>bu _ (up c o u B C e)
 rw[<-hsz]
 exact cu _ rfl
theorem Uq{z TI TO T:Addr}{f:Obj}{e:Bool}(hz:kg s.heap z TI TO (rawInt T) (.bool e))(g:s.heap.get? T=some f):
  wpAny (model prog w) A (Builtin.SmallTypes.ownedTupleIsFree (.ref z)) (λb s'=>b=false/\∃a,s'={s with heap:=a}/\kg a z TI TO (rawInt T) (.bool true)/\SameBut z s.heap a) E s:=by
 unfold Builtin.SmallTypes.ownedTupleIsFree;refine ah (jY hz rfl (x:=rawInt T) rfl ?_);show wpAny _ _ (loadIfAlive ((T:Int)).toNat>>=_) _ _ _;have i:∀{R:Option Obj->Shared->Prop},R (some f) s->wpAny (model prog w) A (loadIfAlive ((T:Int)).toNat) R E s:=λ {R} h=>by
  intro j p _;unfold loadIfAlive;rw[Sem.wp_loadIfAlive,qE,g];exact h
 refine ah (i ?_);rw[ao θ];refine ah (jY hz rfl (x:=.bool e) rfl ?_);cases e with
 |true=>exact aD ⟨rfl,s.heap,rfl,hz,.refl ..⟩
 |false=>
  show wpAny _ _ (setField (.ref z) 1 (.bool true)>>=_) _ _ _;exact ah (wpAny_setField_rec hz θ λa c d=>aD ⟨rfl,a,rfl,c,d⟩)
theorem Zd{z TI TO i1 i2 l1 l2 T:Addr}{C:Obj}{F:Bool}{k1 k2:Nat}{xs ys:Array Value}{Q:Fin->Shared->Prop}(v:A.handled=none)(D:ZipApart z TI TO i1 i2 l1 l2)
  (hz:kg s.heap z TI TO (rawInt T) (.bool F))(G:s.heap.get? T=some C)(l:IsPair s.heap TI (.ref i1) (.ref i2))
  (h1:s.heap.IsListIter i1 l1 k1)(h2:s.heap.IsListIter i2 l2 k2)(i:s.heap.IsList l1 xs)(m:s.heap.IsList l2 ys)(j:xs[k1]? =none\/ys[k2]? =none)
  (y:∀h' e,(∀c o,c≠z->c≠i1->c≠i2->s.heap.get? c=some o->h'.get? c=some o)->(∃o,h'.get? e=some o/\o.cls= .type "StopIteration")->E (.ref e) {s with heap:=h'}):
  wpAny (model prog w) A (Builtin.«zip.__next__» ⟨[.ref z],[]⟩) Q E s:=by
 show wpAny _ _ (field (.ref z) 2>>=_) _ _ _
 refine ah (jY hz rfl (x:= .bool false) rfl ?_)
 show wpAny _ _ (field (.ref z) 3>>=_) _ _ _
 refine ah (jY hz rfl (x:= .ref TI) rfl ?_)
 refine ah (ug l rfl ?_)
 show wpAny _ _ (Builtin.SmallTypes.ownedTupleIsFree (.ref z)>>=_) _ _ _
 refine ah (kU (Uq hz G) (λb s' H=> ?_) λ_ _ e=>e)
 obtain⟨rfl,B,rfl,n,a⟩:=H
 show wpAny _ _ (forIn _ _ _>>=_) _ _ _
 refine ah ?_
 rw[<-Array.forIn_toList]
 simp only[forIn_cons,forIn_nil]
 refine ah (ah (fS ?_))
 show wpAny _ _ (Builtin.SmallTypes.nextOf (.ref i1)>>=_) _ _ _
 cases p:xs[k1]? with
 |none=>
  refine ah (wpAny_nextOf_list_end v (h1.extBut a.extBut D.i1z) (i.extBut a.extBut D.l1z) p λf e d q=> ?_)
  exact y f e (λc o r t _ x=>d _ _ t (a.extBut _ _ r x)) q
 |some x=>
  have I:ys[k2]? =none:=by rcases j with h|h;rw[p] at h;cases h;exact h
  refine ah (Cn (h1.extBut a.extBut D.i1z) (i.extBut a.extBut D.l1z) p λf u d=>aD (aD ?_))
  refine ah (ah (fS ?_))
  show wpAny _ _ (Builtin.SmallTypes.nextOf (.ref i2)>>=_) _ _ _
  refine ah (wpAny_nextOf_list_end v ((h2.extBut a.extBut D.i2z).extBut d.extBut D.i12.symm) ((m.extBut a.extBut D.l2z).extBut d.extBut D.l2i1) I λk e g q=> ?_)
  exact y k e (λc o r t J x=>g _ _ J (d.extBut _ _ t (a.extBut _ _ r x))) q
theorem VI{z TI TO i1 i2 l1 l2 T:Addr}{g:Obj}{h:Bool}{k1 k2:Nat}{xs ys:Array Value}{x y:Value}{Q:Option Value->Shared->Prop}(D:ZipApart z TI TO i1 i2 l1 l2)
  (hz:kg s.heap z TI TO (rawInt T) (.bool h))(i:s.heap.get? T=some g)(b:T≠z)(d:IsPair s.heap TI (.ref i1) (.ref i2))
  (h1:s.heap.IsListIter i1 l1 k1)(h2:s.heap.IsListIter i2 l2 k2)(e:s.heap.IsList l1 xs)(f:s.heap.IsList l2 ys)(j:xs[k1]? =some x)(k:ys[k2]? =some y)
  (l:∀h',kg h' z TI TO (rawInt T) (.bool true)->h'.IsListIter i1 l1 (k1+1)->h'.IsListIter i2 l2 (k2+1)->IsPair h' s.heap.objs.size x y->h'.objs.size=s.heap.objs.size+1->
   (∀c o,c≠z->c≠i1->c≠i2->s.heap.get? c=some o->h'.get? c=some o)->Q (some (.ref s.heap.objs.size)) {s with heap:=h'}):
  wpAny (model prog w) A (pyNext (.ref z)) Q E s:=by
 have a:s.TypeIs (.ref z) "zip":=⟨_,hz,rfl⟩
 unfold pyNext
 exact ah (qF (oR (name:=Str.ofString "__next__") a yh
  (jf yh a F.entry_zip_next
   (Ze D hz i b d h1 h2 e f j k λh' a1 a2 a3 a4 a5 m=>aD (l h' a1 a2 a3 a4 a5 m)) (F.args_zip_next_1 _))))
theorem VH{z TI TO i1 i2 l1 l2 T:Addr}{i:Obj}{j:Bool}{k1 k2:Nat}{xs ys:Array Value}{Q:Option Value->Shared->Prop}(k:A.handled=none)(D:ZipApart z TI TO i1 i2 l1 l2)
  (hz:kg s.heap z TI TO (rawInt T) (.bool j))(l:s.heap.get? T=some i)(f:IsPair s.heap TI (.ref i1) (.ref i2))
  (h1:s.heap.IsListIter i1 l1 k1)(h2:s.heap.IsListIter i2 l2 k2)(g:s.heap.IsList l1 xs)(h:s.heap.IsList l2 ys)(a:xs[k1]? =none\/ys[k2]? =none)
  (m:∀h',(∀c o,c≠z->c≠i1->c≠i2->s.heap.get? c=some o->h'.get? c=some o)->Q none {s with heap:=h'}):wpAny (model prog w) A (pyNext (.ref z)) Q E s:=by
 have d:s.TypeIs (.ref z) "zip":=⟨_,hz,rfl⟩
 unfold pyNext
 refine ah (qF (oR (name:=Str.ofString "__next__") d yh
  (jf yh d F.entry_zip_next (Zd k D hz l f h1 h2 g h a λh' e n p=> ?_) (F.args_zip_next_1 _))))
 obtain⟨o,q,hc⟩:=p
 refine ah (yv (T:="StopIteration") (b:=true) ⟨o,q,hc⟩ isSubtype_stop ?_)
 exact aD (m _ n)
structure ZS(z TI TO i1 i2 l1 l2 base:Addr)(xs ys:Array Value)(k:Nat)(h:Heap):Prop where
 zip:(k=0/\IsZip h z TI TO .none)\/(0<k/\∃bb,kg h z TI TO (rawInt base) (.bool bb))
 ti:IsPair h TI (.ref i1) (.ref i2)
 to:∃a b,IsPair h TO a b
 pX:h.IsListIter i1 l1 k
 pY:h.IsListIter i2 l2 k
 mS:h.IsList l1 xs
 mT:h.IsList l2 ys
 sz:h.objs.size=base+k
 old:∀(j:Nat) x y,j<k->xs[j]? =some x->ys[j]? =some y->IsPair h (base+j) x y
structure pF(z TI TO i1 i2 l1 l2 base:Addr):Prop where
 z:z<base
 to:TO<base
 i1:i1<base
 i2:i2<base
theorem ZS.upd{z TI TO i1 i2 l1 l2 base S:Addr}{xs ys:Array Value}{k:Nat}{h h':Heap}(Z:ZS z TI TO i1 i2 l1 l2 base xs ys k h)(c:∀b o,b≠S->h.get? b=some o->h'.get? b=some o)(d:h'.objs.size=h.objs.size)
  (n1:z≠S)(n2:TI≠S)(n3:TO≠S)(n4:i1≠S)(n5:i2≠S)(n6:l1≠S)(n7:l2≠S)(n8:S<base):ZS z TI TO i1 i2 l1 l2 base xs ys k h' where
 zip:=by
  rcases Z.zip with⟨e,q⟩|⟨e,f,q⟩
  .exact .inl ⟨e,c _ _ n1 q⟩
  .exact .inr ⟨e,f,c _ _ n1 q⟩
 ti:=c _ _ n2 Z.ti
 to:=let ⟨a,b,q⟩:=Z.to;⟨a,b,c _ _ n3 q⟩
 pX:=Z.pX.at λo e=>c _ o n4 e
 pY:=Z.pY.at λo e=>c _ o n5 e
 mS:=Z.mS.at λo e=>c _ o n6 e
 mT:=Z.mT.at λo e=>c _ o n7 e
 sz:=d.trans Z.sz
 old:=λj x y g i l=>c _ _ (kT (cO n8 (qt _ _))) (Z.old j x y g i l)
theorem Zi{z TI TO i1 i2 l1 l2 base:Addr}{xs ys:Array Value}{k:Nat}{x y:Value}{Q:Option Value->Shared->Prop}(D:ZipApart z TI TO i1 i2 l1 l2)(L:pF z TI TO i1 i2 l1 l2 base)
  (Z:ZS z TI TO i1 i2 l1 l2 base xs ys k s.heap)(g:xs[k]? =some x)(h:ys[k]? =some y)
  (I:∀h',ZS z TI TO i1 i2 l1 l2 base xs ys (k+1) h'->(∀c o,c≠z->c≠TO->c≠i1->c≠i2->s.heap.get? c=some o->h'.get? c=some o)->Q (some (.ref (base+k))) {s with heap:=h'}):
  wpAny (model prog w) A (pyNext (.ref z)) Q E s:=by
 obtain⟨a,b,f⟩:=Z.to
 have new:∀h',(∀c o,c≠z->c≠TO->c≠i1->c≠i2->s.heap.get? c=some o->h'.get? c=some o)->IsPair h' s.heap.objs.size x y->∀(j:Nat) i l,j<k+1->xs[j]? =some i->ys[j]? =some l->IsPair h' (base+j) i l:=λh' d K j i l M m n=>by
  by_cases p:j=k
  .subst p
   rw[g] at m;rw[h] at n;cases m;cases n
   rw[<-Z.sz]
   exact K
  .have lo:∀c,c<base->base+j≠c:=λc hc e=>absurd (cO hc (qt base j)) (by rw[e];exact gp _)
   exact d _ _ (lo _ L.z) (lo _ L.to) (lo _ L.i1) (lo _ L.i2) (Z.old j i l ω m n)
 rcases Z.zip with⟨e,q⟩|⟨e,N,q⟩
 .subst e
  refine wpAny_pyNext_zip_item D q Z.ti f Z.pX Z.pY Z.mS Z.mT g h λh' a1 a2 a3 a4 a5 t d=> ?_
  have u:s.heap.objs.size=base:=Z.sz
  have r:=I h' ⟨.inr ⟨succ_pos _,false,by rw[u] at a1;exact a1⟩,d _ _ D.TIz D.TITO D.TIi1 D.TIi2 Z.ti,⟨_,_,a2⟩,a3,a4,Z.mS.at λo e=>d _ o D.l1z D.l1TO D.l1i1 D.l1i2 e,Z.mT.at λo e=>d _ o D.l2z D.l2TO D.l2i1 D.l2i2 e,
   by rw[t,u],new h' d a5⟩ d
  rw[u]
  exact r
 .obtain⟨x0,v⟩:∃x0,xs[0]? =some x0:=⟨xs[0]'(by have:=(ya.mp g).1;omega),eT _⟩
  obtain⟨B,C⟩:∃B,ys[0]? =some B:=⟨ys[0]'(by have:=(ya.mp h).1;omega),eT _⟩
  have J:=Z.old 0 x0 B e v C
  rw[Nat.add_zero] at J
  refine VI D q J (kT L.z) Z.ti Z.pX Z.pY Z.mS Z.mT g h λh' a1 a3 a4 a5 t d=> ?_
  have r:=I h' ⟨.inr ⟨succ_pos _,true,a1⟩,d _ _ D.TIz D.TIi1 D.TIi2 Z.ti,⟨_,_,d _ _ D.TOz D.TOi1 D.TOi2 f⟩,a3,a4,Z.mS.at λo e=>d _ o D.l1z D.l1i1 D.l1i2 e,Z.mT.at λo e=>d _ o D.l2z D.l2i1 D.l2i2 e,
   by rw[t,Z.sz];rfl,new h' (λc o F _ G H e=>d c o F G H e) a5⟩ λc o F _ G H e=>d c o F G H e
  rw[Z.sz]
  exact r
theorem Zh{z TI TO i1 i2 l1 l2 base:Addr}{xs ys:Array Value}{k:Nat}{Q:Option Value->Shared->Prop}(j:A.handled=none)(D:ZipApart z TI TO i1 i2 l1 l2)
  (Z:ZS z TI TO i1 i2 l1 l2 base xs ys k s.heap)(d:k=min xs.size ys.size)
  (l:∀h',(∀c o,c≠z->c≠TO->c≠i1->c≠i2->s.heap.get? c=some o->h'.get? c=some o)->Q none {s with heap:=h'}):wpAny (model prog w) A (pyNext (.ref z)) Q E s:=by
 obtain⟨a,b,f⟩:=Z.to
 have m:xs[k]? =none\/ys[k]? =none:=by
  subst d
  rcases Nat.le_total xs.size ys.size with h|h
  .exact .inl (by rw[Nat.min_eq_left h];exact uz (aF _))
  .exact .inr (by rw[Nat.min_eq_right h];exact uz (aF _))
 rcases Z.zip with⟨e,q⟩|⟨e,v,q⟩
 .exact wpAny_pyNext_zip_end j D q Z.ti f Z.pX Z.pY Z.mS Z.mT m l
 .have g:0<xs.size:=ω
  have i:0<ys.size:=ω
  have n:=Z.old 0 _ _ e (eT g) (eT i)
  rw[Nat.add_zero] at n
  exact VH j D q n Z.ti Z.pX Z.pY Z.mS Z.mT m λh' p=>l h' λc o r _ t u e=>p c o r t u e
noncomputable def fJ(base k:Nat):Array Value:=((range k).map λj=>Value.ref (base+j)).toArray
theorem VU(base k:Nat):fJ base (k+1)=(fJ base k).push (.ref (base+k)):=by
 unfold fJ;rw[range_succ,dP];simp
theorem Bs(base k:Nat):(fJ base k).size=k:=by simp[fJ]
end
namespace F
theorem Zg:typeLookup (.type "zip") "__len__"=pure none:=by rw[oQ,oZ];kernel_rfl
theorem Zf:typeLookup (.type "zip") "__length_hint__"=pure none:=by rw[oQ,oZ];kernel_rfl
end F
section
variable{prog:Program}{w:World}{A:Around}{s:Shared}{R:Result->Shared->Prop}{z TI TO i1 i2 l1 l2 base S:Addr}{xs ys:Array Value}
structure rz(z TI TO i1 i2 l1 l2 base S:Addr):Prop where
 n1:z≠S
 n2:TI≠S
 n3:TO≠S
 n4:i1≠S
 n5:i2≠S
 n6:l1≠S
 n7:l2≠S
 n8:S<base
theorem Oi(I:A.handled=none)(D:ZipApart z TI TO i1 i2 l1 l2)(L:pF z TI TO i1 i2 l1 l2 base)(O:rz z TI TO i1 i2 l1 l2 base S)(U:min xs.size ys.size<=sizeLine)(res:Value):
  ∀(m k:Nat) (s:Shared) (c:Nat),min xs.size ys.size - k=m->k<=min xs.size ys.size->ZS z TI TO i1 i2 l1 l2 base xs ys k s.heap->s.heap.get? S=some {cls:=.type "list",dict:=none,data:=.seq (fJ base k) c,slots:= #[]}->
  (∀h' c',(∀(j:Nat) x y,xs[j]?=some x->ys[j]?=some y->IsPair h' (base+j) x y)->h'.get? S=some {cls:=.type "list",dict:=none,data:=.seq (fJ base (min xs.size ys.size)) c',slots:= #[]}->
   (∀b o,b≠S->b≠z->b≠TO->b≠i1->b≠i2->s.heap.get? b=some o->h'.get? b=some o)->R (.ok (.ret res)) {s with heap:=h'})->
  codeAny (model prog w) A (.builtin "list.extend.loop" ⟨[.ref S,.ref z,res],[]⟩) R s:=by
 have lo:∀(c j:Nat),c<base->base+j≠c:=λc j hc e=>absurd (cO hc (qt base j)) (by rw[e];exact gp _);intro m;induction m with
 |zero=>
  intro k s c J K i r t;have f:k=min xs.size ys.size:=ω
  refine iL PySem.F.entry_extend_loop ?_;rw[jF ud _];show wpAny _ A.in1 (pyNext (.ref z)>>=_) _ _ s;refine ah (Zh (A:=A.in1) I D i f λh' a=>?_);refine aD (t h' c (λj x y G H=>?_) ?_ λb o u l n p q e=>a b o l n p q e)
  .have M:j<k:=by
    have V:=(ya.mp G).1;have W:=(ya.mp H).1;omega
   exact a _ _ (lo _ _ L.z) (lo _ _ L.to) (lo _ _ L.i1) (lo _ _ L.i2) (i.old j x y M G H)
  .rw[<-f]
   exact a _ _ O.n1.symm O.n3.symm O.n4.symm O.n5.symm r
 |succ m N=>
  intro k s c J K i r t;have v:k<min xs.size ys.size:=ω
  have P:xs[k]?=some (xs[k]' ω):=eT _;have Q:ys[k]?=some (ys[k]' ω):=eT _;refine iL PySem.F.entry_extend_loop ?_;rw[jF ud _];show wpAny _ A.in1 (pyNext (.ref z)>>=_) _ _ s;refine ah (Zi (A:=A.in1) D L i P Q λh' B a=>?_);have g:=a _ _ O.n1.symm O.n3.symm O.n4.symm O.n5.symm r;show wpAny _ A.in1 (updateSeq S (·.push (.ref (base+k)))>>=_) _ _ _;refine ah ?_;have h:∀b o,b≠S->h'.get? b=some o->(h'.update S (Obj.mapSeq (·.push (.ref (base+k))))).get? b=some o:=λb o T e=>(o5 _ _ (Ne.symm T)).trans e;have C:=j_ (Obj.mapSeq (·.push (.ref (base+k)))) g rfl;have d:∃n',(h'.update S (Obj.mapSeq (·.push (.ref (base+k))))).get? S=some {cls:=.type "list",dict:=none,data:=.seq ((fJ base k).push (.ref (base+k))) n',slots:= #[]}:=⟨_,C⟩;obtain⟨n',d⟩:=d;rw[<-VU] at d;refine uo g rfl (aD ⟨jX ud _,N (k+1) _ n' ω v (B.upd h (qC ..) O.n1 O.n2 O.n3 O.n4 O.n5 O.n6 O.n7 O.n8) d λE c' a1 a2 a3=>?_⟩)
   (by rw[Bs];omega) (by show((fJ base k).push _).size<=sizeLine+1;rw[Array.size_push,Bs];omega)
  .exact t E c' a1 a2 λb o u l n p q e=>a3 b o u l n p q (h b o u (a b o l n p q e))
theorem Oh(n:A.handled=none)(D:ZipApart z TI TO i1 i2 l1 l2)(L:pF z TI TO i1 i2 l1 l2 base)(O:rz z TI TO i1 i2 l1 l2 base S)(p:min xs.size ys.size<=sizeLine)(res:Value)(c₀:Nat)
  (i:ZS z TI TO i1 i2 l1 l2 base xs ys 0 s.heap)(k:s.heap.get? S=some {cls:= .type "list",data:= .seq #[] c₀})
  (r:∀h' c',(∀(j:Nat) x y,xs[j]? =some x->ys[j]? =some y->IsPair h' (base+j) x y)->h'.get? S=some {cls:= .type "list",dict:=none,data:= .seq (fJ base (min xs.size ys.size)) c',slots:= #[]}->
   (∀b o,b≠S->b≠z->b≠TO->b≠i1->b≠i2->s.heap.get? b=some o->h'.get? b=some o)->R (.ok (.ret res)) {s with heap:=h'}):
  wpAny (model prog w) A.in1 (Builtin.List.listExtendWith (.ref S) (.ref z) res)
   (λfin s'=>match fin with| .done f=>R (.ok f) s'| .again c'=>c'.quiet=true/\codeAny (model prog w) A c' R s') (λe s'=>R (.error e) s') s:=by
 have d:IsZip s.heap z TI TO .none:=by
  rcases i.zip with⟨_,q⟩|⟨e,_⟩
  .exact q
  .exact absurd e (gp _)
 have h:s.TypeIs (.ref z) "zip":=⟨_,d,rfl⟩
 unfold Builtin.List.listExtendWith
 refine ah (nu h ?_)
 have h1:Builtin.List.listSameRef (.ref S) (.ref z)=false:=by simp[Builtin.List.listSameRef,O.n1.symm]
 have h2:(Value.type "zip" ==Value.type "list")=false:=δ
 have t:(Value.type "zip" ==Value.type "tuple")=false:=δ
 simp only[h1,h2,t,Bool.or_false,jG,gk]
 refine ah (wpAny_pyIter_zip d ?_)
 refine ah (fS ?_)
 unfold Builtin.List.listLengthHint
 refine ah (wpAny_specialOf h F.Zg ?_)
 show wpAny _ A.in1 (specialOf (Value.ref z) (Str.ofString "__length_hint__")>>=_) _ _ _
 refine ah (wpAny_specialOf h F.Zf ?_)
 refine aD ?_
 show wpAny _ A.in1 (rule "list.extend.makes-room">>=λ_=>Builtin.List.listTouch (.ref S)>>=λ_=>
  again (.builtin "list.extend.loop" ⟨[.ref S,.ref z,res],[]⟩)) _ _ _
 refine ah (jZ ?_)
 refine ah ?_
 show wpAny _ A.in1 (updateSeq S (·.push .none)>>=λ_=>updateSeq S (·.pop)) _ _ _
 refine ah (uo k rfl ?_)
 have a:=j_ (Obj.mapSeq (·.push Value.none)) k rfl
 refine uo (hz:=by seq_fits) a rfl ?_
 have c:=j_ (Obj.mapSeq (·.pop)) a rfl
 have g:∀b o,b≠S->s.heap.get? b=some o->((s.heap.update S (Obj.mapSeq (·.push Value.none))).update S (Obj.mapSeq (·.pop))).get? b=some o:=
  λb o l e=>(o5 _ _ (Ne.symm l)).trans ((o5 _ _ (Ne.symm l)).trans e)
 refine aD ⟨jX ud _,Oi n D L O p res _ 0 _ _ rfl (bQ _) (i.upd g (by rw[qC,qC]) O.n1 O.n2 O.n3 O.n4 O.n5 O.n6 O.n7 O.n8) c λh' c' a1 a2 a3=> ?_⟩
 exact r h' c' a1 a2 λb o m u v B C e=>a3 b o m u v B C (g b o m e)
end
end ZL
end PySem
section
open PySem PySem.Spec PyProof.Rows
namespace L2
noncomputable def c8:List (Str×NameKind)->List Str
 |[]=>[]
 |(n,k)::r=>if (k==NameKind.free)=true then n::c8 r else c8 r
noncomputable def fY(env:Env):List (Str×NameKind)->List (Str×Addr)->List (Str×Addr)
 |[],acc=>acc
 |(n,k)::r,acc=>if (k==NameKind.free)=true then fY env r ((n,(env.cells.lookup n).getD 0)::acc) else fY env r acc
theorem zJ{env:Env}{f:(Str×NameKind)->List (Str×Addr)->Sem (ForInStep (List (Str×Addr)))}
  (h1:∀n k cs c,(k==NameKind.free)=true->env.cells.lookup n=some c->f (n,k) cs=pure (.yield ((n,c)::cs)))(h2:∀n k cs,(k==NameKind.free)=false->f (n,k) cs=pure (.yield cs)):
  ∀(names:List (Str×NameKind)) (acc:List (Str×Addr)),(∀n∈c8 names,∃c,env.cells.lookup n=some c)->forIn names acc f=pure (fY env names acc)
 |[],acc,_=>by rw[forIn_nil];rfl
 |(n,k)::r,acc,h=>by
  rw[forIn_cons];cases e:(k==NameKind.free) with
  |true=>
   have b:c8 ((n,k)::r)=n::c8 r:=by show(if (k==NameKind.free)=true then n::c8 r else c8 r)=_;rw[aA e]
   obtain⟨c,hc⟩:=h n (by rw[b];exact aT);rw[h1 n k acc c e hc,pure_bind];show forIn r ((n,c)::acc) f=_;rw[zJ h1 h2 r _ λm d=>h m (by rw[b];exact bq _ d)];have a:fY env ((n,k)::r) acc=fY env r ((n,(env.cells.lookup n).getD 0)::acc):=by
    show(if (k==NameKind.free)=true then _ else _)=_;rw[aA e]
   rw[a,hc];rfl
  |false=>
   have b:c8 ((n,k)::r)=c8 r:=by show(if (k==NameKind.free)=true then n::c8 r else c8 r)=_;rw[ao (by rw[e];decide)]
   rw[h2 n k acc e,pure_bind];show forIn r acc f=_;rw[zJ h1 h2 r _ λm d=>h m (by rw[b];exact d)];have a:fY env ((n,k)::r) acc=fY env r acc:=by
    show(if (k==NameKind.free)=true then _ else _)=_;rw[ao (by rw[e];decide)]
   rw[a]
theorem Eu{scope:Scope}{env:Env}(h:∀n∈c8 scope.names,∃c,env.cells.lookup n=some c):closureFor scope env=pure (fY env scope.names []):=by
 unfold closureFor;show(forIn scope.names [] _>>=_)=_;rw[zJ (env:=env) (λn k cs c a hc=>?_) (λn k cs a=>?_) scope.names [] h]
 .exact pure_bind _ _
 .dsimp only
  rw[aA a];unfold cellOf;rw[hc];rfl
 .dsimp only
  rw[ao (by rw[a];decide)]
theorem rK{env:Env}{x:Str}:∀(names:List (Str×NameKind)) (acc:List (Str×Addr)),(∀n∈c8 names,∃c,env.cells.lookup n=some c)->
  (fY env names acc).lookup x=if x∈c8 names then env.cells.lookup x else acc.lookup x
 |[],acc,_=>by simp[fY,c8]
 |(n,k)::r,acc,h=>by
  cases e:(k==NameKind.free) with
  |true=>
   have b:c8 ((n,k)::r)=n::c8 r:=by show(if (k==NameKind.free)=true then n::c8 r else c8 r)=_;rw[aA e]
   obtain⟨c,hc⟩:=h n (by rw[b];exact aT);have a:fY env ((n,k)::r) acc=fY env r ((n,(env.cells.lookup n).getD 0)::acc):=by
    show(if (k==NameKind.free)=true then _ else _)=_;rw[aA e]
   rw[a,b,rK r _ λm f=>h m (by rw[b];exact bq _ f)];by_cases d:x∈c8 r
   .rw[aA d,aA (bq _ d)]
   .rw[ao d]
    by_cases g:x=n
    .subst g
     rw[aA aT,hc];simp
    .rw[ao (by intro z;rcases aY.mp z with z|z;exact g z;exact d z)]
     have i:(x==n)=false:=by simpa using g
     rw[iJ,i]
  |false=>
   have b:c8 ((n,k)::r)=c8 r:=by show(if (k==NameKind.free)=true then n::c8 r else c8 r)=_;rw[ao (by rw[e];decide)]
   have a:fY env ((n,k)::r) acc=fY env r acc:=by
    show(if (k==NameKind.free)=true then _ else _)=_;rw[ao (by rw[e];decide)]
   rw[a,b,rK r _ λm f=>h m (by rw[b];exact f)]
structure gG(X:Cx)(scope:Scope)(frees:List Str):Prop where
 kind:scope.kind= .function
 Hx:∀y∈scope.names,y.2≠ .cell
 locs:∀y∈scope.names,y.2= .local->scope.names.lookup y.1=some .local
 sub:∀n∈c8 scope.names,n∈frees
 free:∀n∈frees,scope.names.lookup n=some .free
 kinds:(frees.all λn=>X.env.kindOf n==some .cell||X.env.kindOf n==some .free)=true
theorem gG.frees{X:Cx}{scope:Scope}{fr:List Str}(S:gG X scope fr):∀n∈c8 scope.names,X.env.kindOf n=some .cell\/X.env.kindOf n=some .free:=λn a=>by
 have h:=all_eq_true.mp S.kinds n (S.sub n a);rcases Bool.or_eq_true _ _▸h with h|h
 .exact .inl (eq_of_beq h)
 .exact .inr (eq_of_beq h)
theorem vX{x:Str}:∀{names:List (Str×NameKind)},(x,NameKind.free)∈names->x∈c8 names
 |(n,k)::r,h=>by
  unfold c8;rcases aY.mp h with e|e
  .injection e with a b
   subst a b;rw[aA (by rfl)];exact aT
  .split
   .exact bq _ (vX e)
   .exact vX e
theorem Iu{env:Env}{x:Str}:∀{names:List (Str×NameKind)} {k:NameKind},(names.map λ(n,k)=>if (k==NameKind.free&&env.scope.kind== .function&&env.kindOf n==some .cell) then (n,NameKind.cell) else (n,k)).lookup x=some k->
  ∃k0,names.lookup x=some k0/\(k=k0\/(k0=.free/\k=.cell))
 |[],k,h=>by simp at h
 |(n,k1)::r,k,h=>by
  rw[cK] at h;by_cases b:(x==n)=true
  .by_cases hc:(k1==NameKind.free&&env.scope.kind== .function&&env.kindOf n==some .cell)=true
   .dsimp only at h
    rw[aA hc,iJ,b] at h;have e:k=.cell:=by injection h with h;exact h.symm
    have c:k1=.free:=by
     have:=(kX _ _▸(kX _ _▸hc).1).1;exact eq_of_beq this
    exact⟨k1,by rw[iJ,b],.inr ⟨c,e⟩⟩
   .dsimp only at h
    rw[ao hc,iJ,b] at h;injection h with h;exact⟨k1,by rw[iJ,b],.inl h.symm⟩
  .have a:(x==n)=false:=by simpa using b
   have h':(List.map (λ(n,k)=>if (k==NameKind.free&&env.scope.kind== .function&&env.kindOf n==some .cell) then (n,NameKind.cell) else (n,k)) r).lookup x=some k:=by
    by_cases hc:(k1==NameKind.free&&env.scope.kind== .function&&env.kindOf n==some .cell)=true
    .dsimp only at h;rw[aA hc,iJ,a] at h;exact h
    .dsimp only at h;rw[ao hc,iJ,a] at h;exact h
   obtain⟨k0,c,d⟩:=Iu h';exact⟨k0,by rw[iJ,a];exact c,d⟩
theorem Ir{env:Env}{x:Str}:∀{names:List (Str×NameKind)},names.lookup x=some .free->
  (names.map λ(n,k)=>if (k==NameKind.free&&env.scope.kind== .function&&env.kindOf n==some .cell) then (n,NameKind.cell) else (n,k)).lookup x=some .cell\/
  (names.map λ(n,k)=>if (k==NameKind.free&&env.scope.kind== .function&&env.kindOf n==some .cell) then (n,NameKind.cell) else (n,k)).lookup x=some .free
 |[],h=>by simp at h
 |(n,k1)::r,h=>by
  rw[cK]
  by_cases b:(x==n)=true
  .rw[iJ,b] at h
   injection h with h
   subst h
   by_cases hc:(NameKind.free==NameKind.free&&env.scope.kind== .function&&env.kindOf n==some .cell)=true
   .left;dsimp only;rw[aA hc,iJ,b]
   .right;dsimp only;rw[ao hc,iJ,b]
  .have a:(x==n)=false:=by simpa using b
   rw[iJ,a] at h
   have c:=Ir (env:=env) h
   by_cases hc:(k1==NameKind.free&&env.scope.kind== .function&&env.kindOf n==some .cell)=true
   .dsimp only;rw[aA hc,iJ,a];exact c
   .dsimp only;rw[ao hc,iJ,a];exact c
structure CP where
 C:Addr
 s:Shared
 H:Hp
 pins:aZ
 fp:List Addr
noncomputable def bZ(X:Cx)(NC:List Str)(scope:Scope)(c:CP):Cx where
 prog:=X.prog
 w:=X.w
 K:=X.K
 mg:=X.mg
 base:=X.base
 A:=X.A
 N:=NC
 s₀:=c.s
 H₀:=c.H
 env:=compEnvC scope (fY X.env scope.names []) c.C X.env
 outer:=X.stack
 stack:=X.stack
 ex:=c.fp
 fn:=λ_=>false
 calm:=true
 pn:=X.pn++c.pins
 xe:=λ_ _=>False
section
variable{X:Cx}{scope:Scope}{frees:List Str}{NC:List Str}{pins:aZ}{σ qS:St}{H H':Hp}{s s':Shared}{fp:List Addr}{C:Addr}
theorem gG.has(S:gG X scope frees)(ok:X.Ok):∀n∈c8 scope.names,∃c,X.env.cells.lookup n=some c:=λn a=>ok.has n (S.frees n a)
theorem gG.cells(S:gG X scope frees)(ok:X.Ok){x:Str}{c:Addr}(h:(fY X.env scope.names []).lookup x=some c):x∈c8 scope.names/\X.env.cells.lookup x=some c:=by
 rw[rK scope.names [] (S.has ok)] at h;by_cases a:x∈c8 scope.names
 .rw[aA a] at h;exact⟨a,h⟩
 .rw[ao a] at h;simp at h
theorem MJ(S:gG X scope frees)(hc:X.calm=true)(I:Inv X pins σ H s)(f:∀b∈fp,gY X pins H b/\b<s.heap.objs.size)(m:C=s.heap.objs.size):(bZ X NC scope ⟨C,s,H,pins,fp⟩).Ok where
 mod:=I.ok.mod
 kind:=S.kind
 glob:=I.ok.glob
 blt:=I.ok.blt
 above:=by show s.heap.objs.size<=C;rw[m];exact aF _
 inj:=λx y c h1 h2=>I.ok.inj x y c (S.cells I.ok h1).2 (S.cells I.ok h2).2
 has:=λx p=>by
  have i:∃k,(relabel scope X.env).names.lookup x=some k/\(k= .cell\/k= .free):=by
   rcases p with h|h
   .exact⟨_,h,.inl rfl⟩
   .exact⟨_,h,.inr rfl⟩
  obtain⟨k,h,hk⟩:=i
  obtain⟨k0,q,d⟩:=Iu h
  have n:=oW q
  have j:k0= .free:=by
   rcases d with d|⟨d,_⟩
   .rcases hk with hk|hk
    .exact absurd (d▸hk:k0= .cell) (S.Hx _ n)
    .exact d▸hk
   .exact d
  subst j
  have g:=vX n
  obtain⟨c,l⟩:=S.has I.ok x g
  exact⟨c,by show(fY X.env scope.names []).lookup x=some c;rw[rK scope.names [] (S.has I.ok),aA g];exact l⟩
 uU:=λx c h=>nomatch h
 hd:=λ_=>I.ok.hd hc
 frames:=I.ok.frames
 stk:= .inl rfl
 Of:=λb a=>⟨λz=>by have:=(f b a).2;rw[z] at this;exact absurd (m▸this) (gp _),λx c h=>(f b a).1.2.2.2.2.1 x c (S.cells I.ok h).2⟩
 bs:=I.bs
 nK:=cC I.ok.nK I.sz
 wc:=λb o e a=>by
  rcases (f b a).1.2.2.2.1 with z|z
  .exact I.ok.wc b o e z
  .exact absurd (cO (aR e) (cC I.ok.nK z)) (gp _)
 z3:=λb a z=>by
  rcases aY.mp (I.qi b z) with e|e
  .exact(f b a).1.2.1 e
  .exact(f b a).1.2.2.1 e
 kE:=I.stack
 pR:=I.BH
noncomputable def stC(own:List Str)(ix:List Nat)(σ:St):St:=own.map (λ_=>none)++ix.map λi=>(σ[i]?).join
theorem XS{own frees:List Str}{ix:List Nat}{σ:St}{b:List Str}(c:ix.map (λi=>b[i]?)=frees.map some){j:Nat}{x:Str}{v:V}(h1:(own++frees)[j]?=some x)(h2:(stC own ix σ)[j]?=some (some v)):
  x∈frees/\∃i:Nat,b[i]?=some x/\σ[i]?=some (some v):=by
 have f:ix.length=frees.length:=by have:=cj List.length c;simpa using this
 unfold stC at h2;by_cases d:j<own.length
 .rw[iu (by simpa using d),ck] at h2
  cases e:own[j]? with
  |none=>rw[e] at h2;simp at h2
  |some o=>rw[e] at h2;simp at h2
 .rw[qQ (by simpa using d),ck,aK] at h2
  rw[qQ ω] at h1;have a:(ix.map (λi=>b[i]?))[j - own.length]?=(frees.map some)[j - own.length]? :=by rw[c]
  rw[ck,ck,h1] at a;cases e:ix[j - own.length]? with
  |none=>rw[e] at h2;simp at h2
  |some i=>
   rw[e] at h2 a;simp only[map_some,Option.some.injEq] at h2 a;refine⟨cS h1,i,a,?_⟩;cases q:σ[i]? with
   |none=>rw[q] at h2;simp at h2
   |some o=>rw[q] at h2;simp at h2;rw[h2]
theorem XT{own frees:List Str}{ix:List Nat}{σ:St}{a:List Str}(b:ix.map (λi=>a[i]?)=frees.map some):(stC own ix σ).length=(own++frees).length:=by
 have c:ix.length=frees.length:=by have:=cj List.length b;simpa using this
 unfold stC;simp[c]
theorem MI{own:List Str}{ix:List Nat}{a:Heap}{G:Nat}(S:gG X scope frees)(hc:X.calm=true)(I:Inv X pins σ H s)(J:∀b∈fp,gY X pins H b/\b<s.heap.objs.size)(w:C=s.heap.objs.size)
  (E:ix.map (λi=>X.N[i]?)=frees.map some)(y:∃m,a.Ns C m)(g:∀b o,s.heap.get? b=some o->a.get? b=some o):
  Inv (bZ X (own++frees) scope ⟨C,s,H,pins,fp⟩) [] (stC own ix σ) H {s with heap:=a,toks:=G}:=by
 obtain⟨m,K⟩:=y;refine⟨MJ S hc I J w,rfl,I.bare,Un.kept g,⟨m,K,λj x v h1 h2 V=>?_⟩,λx c h=>?_,?_,λx c h=>?_,λp L=>?_,I.hok.kept g,XT E⟩
 .obtain⟨M,i,O,P⟩:=XS E h1 h2
  have f:=S.free x M;have k:=vX (oW f);have t:=S.frees x k;obtain⟨m0,_,Q⟩:=I.loc;have A:pC X.env.scope x:=by rcases t with z|z;exact .inr (.inl z);exact .inr (.inr z)
  obtain⟨u,r,l⟩:=Q i x v O P A;refine⟨u,r,?_⟩;rcases l with⟨F,_⟩|⟨_,c,R,T⟩
  .rcases t with z|z
   .rw[F] at z;cases z
   .rw[F] at z;cases z
  .refine .inr ⟨Ir (env:=X.env) f,c,?_,?_⟩
   .show(fY X.env scope.names []).lookup x=some c
    rw[rK scope.names [] (S.has I.ok),aA k];exact R
   .obtain⟨o,B,hd⟩:=T
    exact⟨o,g _ _ B,hd⟩
 .obtain⟨_,e⟩:=S.cells I.ok h
  obtain⟨v,o,B,hd⟩:=I.cell x c e;exact⟨v,o,g _ _ B,hd⟩
 .show H C=none
  rw[w];exact I.hok.fresh (aF _)
 .exact I.kD x c (S.cells I.ok h).2
 .have D:p∈X.pn++pins:=by
   have:p∈(X.pn++pins)++[]:=L;rwa [lX] at this
  obtain⟨e,n,ne,U,d⟩:=I.pin p D;refine⟨g _ _ e,n,?_,λz=>?_,d⟩
  .show p.1≠C
   rw[w];exact bB (aR e)
  .rcases aY.mp (I.qi p.1 z) with q|q
   .exact ne q
   .exact U q
theorem MG{NC:List Str}(S:gG X scope frees)(I:Inv X pins σ H s)(d:∀b∈fp,gY X pins H b/\b<s.heap.objs.size)(e:C=s.heap.objs.size){b:Addr}(a:b∈fp)(f:H' b=none):gY (bZ X NC scope ⟨C,s,H,pins,fp⟩) [] H' b:=by
 refine⟨f,?_,λz=>?_,.inl a,λx c h=>(d b a).1.2.2.2.2.1 x c (S.cells I.ok h).2,λp g=>(d b a).1.2.2.2.2.2 p ?_⟩
 .show b≠C
  rw[e];exact bB (d b a).2
 .rcases aY.mp (I.qi b z) with q|q
  .exact(d b a).1.2.1 q
  .exact(d b a).1.2.2.1 q
 .have:p∈(X.pn++pins)++[]:=g
  rwa [lX] at this
theorem MF{NC:List Str}(I:Inv X pins σ H s)(a:∀b∈fp,gY X pins H b/\b<s.heap.objs.size)(J:Inv (bZ X NC scope ⟨C,s,H,pins,fp⟩) [] qS H' s'):Inv X pins σ H' s':=
 I.Ma J.os J.base J.hok J.bare λb c=>⟨(a b c).1.2.2.2.1,(a b c).1.2.1,(a b c).1.2.2.2.2.1,(a b c).1.2.2.2.2.2⟩
theorem MH{h':Heap}(I:Inv X pins σ H s)(a:H C=none)(h1:C≠X.env.locals)(h2:X.s₀.heap.objs.size<=C)(d:∀x c,X.env.cells.lookup x=some c->c≠C)(f:∀p∈X.pn++pins,p.1≠C)(g:SameBut C s.heap h'):
 Inv X pins σ H {s with heap:=h'}:=I.turned (t':=s.toks) (λb o h e=>(g.2 b h).trans e) a h1 (.inr h2) d f
end
inductive gZ:St->St->Prop
 |nil:gZ [] []
 |own {o:Option V} {a b:St}:gZ a b->gZ (none::a) (o::b)
 |keep {o:Option V} {a b:St}:gZ a b->gZ (o::a) (o::b)
theorem gZ.len:∀{a b:St},gZ a b->b.length=a.length
 |_,_,.nil=>rfl
 |_,_,.own h=>cj (·+1) h.len
 |_,_,.keep h=>cj (·+1) h.len
theorem gZ.get:∀{a b:St},gZ a b->∀(i:Nat) v,a[i]?=some (some v)->b[i]?=some (some v)
 |_,_,.nil,i,v,e=>by simp at e
 |_,_,.own h,0,v,e=>by simp at e
 |_,_,.own h,i+1,v,e=>by
  rw[Cq] at e ⊢;exact h.get i v e
 |_,_,.keep h,0,v,e=>by simpa using e
 |_,_,.keep h,i+1,v,e=>by
  rw[Cq] at e ⊢;exact h.get i v e
theorem gZ.refl:∀a:St,gZ a a
 |[]=>.nil
 |_::r=>.keep (gZ.refl r)
inductive jk(X:Cx):List Expr->TT->Prop
 |nil:jk X [] (λ_ H Q=>Q true H)
 |one {c:Expr} {t:TT}:PT X c t->jk X [c] t
theorem jk.run{X:Cx}{ifs:List Expr}{t:TT}(h:jk X ifs t){pins:aZ}{s:Shared}{σ:St}{H:Hp}{Q:Bool->Hp->Prop}(I:Inv X pins σ H s)(a:t σ H Q):
  wpAny (model X.prog X.w) X.A (forIn ifs true λc r=>if r=true then do let ok <-isTrue c X.env (eval c X.env);pure (ForInStep.yield ok) else pure (ForInStep.yield r)) (TP X pins σ Q) X.xe s:=by
 cases h with
 |nil=>exact wpAny_tests_nil ⟨H,I,a⟩
 |one h=>exact wpAny_tests_one (h pins s σ H Q I a)
def L7(qS:St)(acc:Addr)(g:TG)(tt:TT)(te:TE)(x:V)(ys:List V)(H:Hp)(N:List V->Hp->Prop):Prop:=
 g x qS H λσ2 H2=>gZ qS σ2/\tt σ2 H2 λb H3=>if b=true then te σ2 H3 λy H4=>H4 acc=some (.lst ys)/\ys.length<sizeLine/\N (ys++[y]) (upd H4 acc (.lst (ys++[y]))) else N ys H3
def zE(J:It)(qS:St)(acc:Addr)(g:TG)(tt:TT)(te:TE)(H:Hp)(Q:VK):Prop:=
 ∃W:Nat->Nat->List V->Hp->Prop,(∃m,W 0 m [] H)/\∀i m ys H,W i m ys H->H acc=some (.lst ys)/\
  ((J.stop i H/\Q (.ref acc) H)\/(J.go i H/\∃N:List V->Hp->Prop,(∀ys' H',N ys' H'->∃m',m'<m/\W (i+1) m' ys' H')/\∀x H',J.x_ i H x H'->L7 qS acc g tt te x ys H' N))
def BO(own:List Str)(ix:List Nat)(wi:TI)(g:CP->TG)(tt:CP->TT)(te:CP->TE):TE:=λσ H Q=>
 wi σ H λJ H1=>∀(c:CP) (acc:Addr),H1 acc=none->zE J (stC own ix σ) acc (g c) (tt c) (te c) (upd H1 acc (.lst [])) Q
section
variable{X:Cx}{scope:Scope}{own frees:List Str}{ix:List Nat}{tg elt iter:Expr}{ifs:List Expr}{pos:Pos}{wi:TI}{g:CP->TG}{tt:CP->TT}{te:CP->TE}
theorem Mu{J:It}{it acc:Addr}{fp:List Addr}{E:Nat->Heap->Prop}{c:CP}{σ:St}{H:Hp}{s:Shared}{Q:VK}{R:Result->Shared->Prop}
  (hfp:c.fp=fp)(T:Turn X.prog X.w X.K tg J fp it E)(hg:PG (bZ X (own++frees) scope c) tg (g c))(ht:jk (bZ X (own++frees) scope c) ifs (tt c))(he:PE (bZ X (own++frees) scope c) elt (te c))
  (j:∀b∈fp,∀H':Hp,H' b=none->gY (bZ X (own++frees) scope c) [] H' b)
  (I:Inv (bZ X (own++frees) scope c) [] (stC own ix σ) H s)(st:E 0 s.heap)(fr:∀b∈fp,H b=none)(h:zE J (stC own ix σ) acc (g c) (tt c) (te c) H Q)
  (hR:∀s' H',Inv (bZ X (own++frees) scope c) [] (stC own ix σ) H' s'->Q (.ref acc) H'->R (.ok .next) s'):
  codeAny (model X.prog X.w) X.A (.compLoop (.ListComp elt [⟨tg,iter,ifs,0⟩] scope pos) 0 (.ref it) (.ref acc) (bZ X (own++frees) scope c).env) R s:=by
 obtain⟨W,⟨m0,w0⟩,turn⟩:=h
 refine codeAny_loop rfl (λn s'=>∃i ys H',Inv (bZ X (own++frees) scope c) [] (stC own ix σ) H' s'/\E i s'.heap/\(∀b∈fp,H' b=none)/\W i n ys H') (λn L hI=> ?_) m0 ⟨0,[],H,I,st,fr,w0⟩
 obtain⟨i,ys,H1,I1,p,v,w1⟩:=hI
 show wpAny _ X.A ((compTurn (.ListComp elt [⟨tg,iter,ifs,0⟩] scope pos) 0 (.ref it) (.ref acc) (bZ X (own++frees) scope c).env).onRaise (λx=>do noteFrame x (bZ X (own++frees) scope c).env;theTreesLotGoes x)) _ _ L
 have k:∀{α:Type} {t:Sem α} {P:α->Shared->Prop} {s:Shared},wpAny (model X.prog X.w) X.A t P (λ_ _=>False) s->wpAny (model X.prog X.w) X.A t P (notedBy (model X.prog X.w) X.A (bZ X (own++frees) scope c).env λe s'=>R (.error e) s') s:=
  λh=>kU h (λ_ _ q=>q) λ_ _ z=>z.elim
 refine wpAny_noted ?_
 rw[compTurn_list]
 obtain⟨ha,hw⟩:=turn i n ys H1 w1
 rcases hw with⟨stop,q⟩|⟨go,N,hN,step⟩
 .refine ah (um (ah (k (aJ (T.done (bZ X (own++frees) scope c) rfl rfl rfl rfl i [] L _ H1 (λ_ _=>False) I1 (λb f=>j b f H1 (v b f)) p stop) λr s2 ⟨M,I2⟩=> ?_))))
  subst M
  exact aD (hR s2 H1 I2 q)
 .refine ah (um (ah (k (aJ (T.item (bZ X (own++frees) scope c) rfl rfl rfl rfl i [] L _ H1 (λ_ _=>False) I1 (λb f=>j b f H1 (v b f)) p go) λr s2 ⟨u,M,h2⟩=> ?_))))
  subst M
  refine ah (k (aJ h2 λ_ s3 ⟨x,O,I3,r3,y3,l,S⟩=> ?_))
  have U:=I3.pinned (λb f=>j b f O (S b f)) (T.obj _ _ l)
  refine ah (k (aJ (hg _ s3 _ O x u _ U r3 (step x O y3)) λ_ s4 ⟨Zm,H4,I4,ks,q4⟩=> ?_))
  refine ah (k (aJ (ht.run I4 q4) λok s5 ⟨H5,V,F⟩=> ?_))
  have a:∀{B:Shared} {C:St} {m:Hp},Inv (bZ X (own++frees) scope c) ([]++sW fp s3.heap) C m B->E (i+1) B.heap/\∀b∈fp,m b=none:=λ {B C m} D=>
   ⟨T.keep _ _ _ l λb f o e=>(D.pin (b,o) (je _ (je _ (vY f e)))).1,λb f=>by
    obtain⟨o,e,d⟩:=T.obj _ _ l b f
    exact(D.pin (b,o) (je _ (je _ (vY f e)))).2.1⟩
  cases ok with
  |false=>
   rw[ao δ] at F
   obtain⟨Y,Z,w5⟩:=hN _ _ F
   obtain⟨k1,k2⟩:=a V
   exact aD ⟨rfl,Y,Z,i+1,ys,H5,(V.tS).weak ks.len.symm ks.get,k1,k2,w5⟩
  |true=>
   rw[aA rfl] at F
   refine ah (ah (k (aJ (he _ s5 _ H5 _ V F) λy B ⟨G,m,D,r6,a6,l6,q6⟩=> ?_)))
   obtain⟨Y,Z,w6⟩:=hN _ _ q6
   obtain⟨k1,k2⟩:=a D
   refine ah (k (aJ (iY (X:=bZ X (own++frees) scope c) _ B _ m (.ref acc) [G] (.ref acc) [y] (λ_ H7=>H7=upd m acc (.lst (ys++[G]))) D rfl (.cons r6 .nil) ⟨acc,ys,G,rfl,rfl,a6,l6,rfl⟩) λ_ s7 ⟨_,H7,I7,_,e7⟩=> ?_))
   subst e7
   obtain⟨k1,k2⟩:=a I7
   exact aD (aD ⟨rfl,Y,Z,i+1,ys++[G],_,(I7.tS).weak ks.len.symm ks.get,k1,k2,w6⟩)
structure yK(X:Cx)(pins:aZ)(C:Addr)(H:Hp):Prop where
 no:H C=none
 loc:C≠X.env.locals
 old:X.s₀.heap.objs.size<=C
 iC:∀x c,X.env.cells.lookup x=some c->c≠C
 pin:∀p∈X.pn++pins,p.1≠C
theorem yK.inv{pins:aZ}{σ:St}{H:Hp}{s:Shared}{C:Addr}{h':Heap}(G:yK X pins C H)(I:Inv X pins σ H s)(a:SameBut C s.heap h'):Inv X pins σ H {s with heap:=h'}:=
 MH I G.no G.loc G.old G.iC G.pin a
theorem EB{pins:aZ}{σ:St}{H:Hp}{s:Shared}{Q:VK}{L:Value->Addr->Result->Shared->Prop}{E:aU}{J:It}{it:Addr}{fp:List Addr}{M:Nat->Heap->Prop}
  (S:gG X scope frees)(hc:X.calm=true)(Z:ix.map (λi=>X.N[i]?)=frees.map some)
  (hg:∀c,PG (bZ X (own++frees) scope c) tg (g c))(ht:∀c,jk (bZ X (own++frees) scope c) ifs (tt c))(he:∀c,PE (bZ X (own++frees) scope c) elt (te c))
  (I:Inv X pins σ H s)(T:Turn X.prog X.w X.K tg J fp it M)(st:M 0 s.heap)(W:∀b∈fp,gY X pins H b)
  (h:∀(c:CP) (acc:Addr),H acc=none->zE J (stC own ix σ) acc (g c) (tt c) (te c) (upd H acc (.lst [])) Q)
  (O:∀(acc C:Addr) s' H' m,Inv X pins σ H' s'->s'.heap.Ns C m->yK X pins C H'->Q (.ref acc) H'->L (.ref acc) C (.ok .next) s'):
  wpAny (model X.prog X.w) X.A (newList []) (λacc r=>wpAny (model X.prog X.w) X.A (newFunctionEnv scope X.env.globals (fY X.env scope.names []) [] X.env.qual none .none (some X.env)) (λl t=>
   codeAny (model X.prog X.w) X.A (.compStart (.ListComp elt [⟨tg,iter,ifs,0⟩] scope pos) 0 (.ref it) acc {l with scope:=relabel scope X.env}) (L acc l.locals) t) E r) E s:=by
 refine gE (wpAny_newFunctionEnv S.Hx (by intro y hy;simp at hy) (λa u B=> ?_) S.kind)
 dsimp only at u B ⊢
 have P:H s.heap.objs.size=none:=I.hok.fresh (aF _)
 have n:Inv X pins σ (upd H s.heap.objs.size (.lst [])) {s with heap:=s.heap.push {cls:= .type "list",data:= .seq ([]:List Value).toArray}}:=I.GZ (its:=[]) (t':=s.toks) .nil (bQ _)
 generalize D:({s with heap:=s.heap.push {cls:= .type "list",data:= .seq ([]:List Value).toArray}}:Shared)=f at n
 have F:f.heap=s.heap.push {cls:= .type "list",data:= .seq ([]:List Value).toArray}:=by rw[<-D]
 have Y:∀b∈fp,b<s.heap.objs.size:=λb j=>by
  obtain⟨o,e,_⟩:=T.obj _ _ st b j
  exact aR e
 have sz:f.heap.objs.size=s.heap.objs.size+1:=by rw[F,fR]
 have k:∀b∈fp,gY X pins (upd H s.heap.objs.size (.lst [])) b/\b<f.heap.objs.size:=λb j=>
  ⟨⟨by rw[bf (bB (Y b j))];exact(W b j).1,(W b j).2⟩,by rw[sz];exact gq (Y b j)⟩
 have kp:∀b o,f.heap.get? b=some o->a.get? b=some o:=λb o e=>by
  refine B.extBut b o ?_ (bu _ (F▸e))
  rw[<-F]
  exact bB (aR e)
 have R:a.Ns f.heap.objs.size (λx=>([]:List (Str×Value)).reverse.lookup x):=by rw[F];exact u
 have J0:Inv (bZ X (own++frees) scope ⟨f.heap.objs.size,f,upd H s.heap.objs.size (.lst []),pins,fp⟩) [] (stC own ix σ) (upd H s.heap.objs.size (.lst [])) {f with heap:=a,toks:=s.toks+0}:=
  MI S hc n k rfl Z ⟨_,R⟩ kp
 have U:∀b∈fp,∀H':Hp,H' b=none->gY (bZ X (own++frees) scope ⟨f.heap.objs.size,f,upd H s.heap.objs.size (.lst []),pins,fp⟩) [] H' b:=λb j H' hn=>MG S n k rfl j hn
 have G:M 0 a:=T.keep _ _ _ st λb j o e=>kp b o (by rw[F];exact bu _ e)
 have loop:codeAny (model X.prog X.w) X.A (.compLoop (.ListComp elt [⟨tg,iter,ifs,0⟩] scope pos) 0 (.ref it) (.ref s.heap.objs.size) (bZ X (own++frees) scope ⟨f.heap.objs.size,f,upd H s.heap.objs.size (.lst []),pins,fp⟩).env)
   (L (.ref s.heap.objs.size) f.heap.objs.size) {f with heap:=a,toks:=s.toks+0}:=by
  refine Mu rfl T (hg _) (ht _) (he _) U J0 G (λb j=>(k b j).1.1) (h _ _ P) λs' H' V q=> ?_
  obtain⟨m,hm,_⟩:=V.loc
  refine O _ _ s' H' m (MF n k V) hm ⟨V.free,kT n.lt,n.sz,λx c e z=> ?_,λp hp z=> ?_⟩ q
  .obtain⟨v,q⟩:=n.cell x c e
   exact absurd (cO q.lt (by rw[z];exact aF _)) (gp _)
  .exact absurd (cO (aR (n.pin p hp).1) (by rw[z];exact aF _)) (gp _)
 have d:=loop
 rw[<-D] at d
 exact codeAny_compStart_list d (T.self _ 0 _ _ _ G d)
theorem HN(hi:PI X tg iter wi)
  (d:∀c,PG (bZ X (own++frees) scope c) tg (g c))(f:∀c,jk (bZ X (own++frees) scope c) ifs (tt c))(j:∀c,PE (bZ X (own++frees) scope c) elt (te c))(S:gG X scope frees:=by exact⟨rfl,η,η,η,η,rfl⟩)(hc:X.calm=true:=by rfl)(k:ix.map (λi=>X.N[i]?)=frees.map some:=by rfl)(l:∀x,foldedSetIterable iter X.env x=pure x:=by intro _;rfl):
  PE X (.ListComp elt [⟨tg,iter,ifs,0⟩] scope pos) (BO own ix wi g tt te):=by
 intro pins s σ H Q I h;rw[eval_ListComp];refine wpAny_comprehension_free (use:=none) rfl l (Eu (S.has I.ok)) S.kind S.locs (aJ (hi pins s σ H _ I h) λv u h1=>aJ h1 λn w h2=>?_);obtain⟨it,fp,y,J,H2,e,o,T,a,f2,p⟩:=h2;subst e;refine EB S hc k d f j o T a f2 p λacc C s' H' m r t G q=>?_;exact⟨m,t,λh' b=>⟨.ref acc,H',G.inv r b,rfl,q⟩⟩
theorem HU{i:Nat}{x:Str}{pos' spos:Pos}(b:X.N.Nodup)(d:X.N[i]? =some x)(o:Loc X.env.scope x)(hi:PI X tg iter wi)
  (p:∀c,PG (bZ X (own++frees) scope c) tg (g c))(r:∀c,jk (bZ X (own++frees) scope c) ifs (tt c))(t:∀c,PE (bZ X (own++frees) scope c) elt (te c))(S:gG X scope frees:=by exact⟨rfl,η,η,η,η,rfl⟩)(hc:X.calm=true:=by rfl)(u:ix.map (λi=>X.N[i]?)=frees.map some:=by rfl)(w:∀x,foldedSetIterable iter X.env x=pure x:=by intro _;rfl)
  (f:swapsWith (.ListComp elt [⟨tg,iter,ifs,0⟩] scope pos) (some (.Name x pos')) spos.line X.env=pure true:=by rfl)(y:X.fn x=true\/X.env.scope.names.lookup x=some .local:=by first|exact .inl rfl|exact .inr rfl|assumption):
  PS X (.Assign [.Name x pos'] (.ListComp elt [⟨tg,iter,ifs,0⟩] scope pos) spos) (BK (BO own ix wi g tt te) (pT i)):=by
 intro pins s σ H D I h
 rw[exec_Assign_Name_used _ _ _ _ f]
 refine ah (um (ah ?_))
 show wpAny _ X.A (do let _ <-comprehension (.ListComp elt [⟨tg,iter,ifs,0⟩] scope pos) scope X.env _ (newList []) false (eval iter X.env) (some (assign (.Name x pos') X.env))) _ _ s
 refine ah (kU (wpAny_comprehension_free (use:=some (assign (.Name x pos') X.env)) (Q:=λ_ s'=>SP X pins D .next s') rfl w (Eu (S.has I.ok)) S.kind S.locs
  (aJ (hi pins s σ H _ I h) λv R h1=>aJ h1 λz B h2=> ?_)) (λ_ s' E=>aD (aD E)) λ_ _ e=>e)
 obtain⟨it,fp,U,J,H2,e,F,T,j,f2,K⟩:=h2
 subst e
 refine EB S hc u p r t F T j f2 K λacc C s' H' m L M G q=> ?_
 show wpAny _ X.A (assign (.Name x pos') X.env (.ref acc)) _ _ _
 refine wpAny_assign_Name (Kl L b d o (v:= .ref acc) rfl (λB k ch=> ?_) y)
 obtain⟨a,O,P⟩:=ch
 have l:C≠a:=by
  rcases P with e|e
  .rw[e];exact G.loc
  .exact(G.iC _ _ e).symm
 exact⟨m,M.sameBut O l,λh' n=>⟨_,H',G.inv k n,q⟩⟩
end
section
variable{X:Cx}
theorem zD:∀{bs:List Bool} {its:List Value},Vals (bs.map V.bl) its->LSm.BoolsAre its bs
 |[],_,.nil=>.nil
 |b::r,_,.cons q t=>by
  cases q;exact .cons b (zD t)
theorem uV(hc:X.calm=true):eN X (.builtin "all") (λxs H Q=>∃(p:Addr) (bs:List Bool),xs=[.ref p]/\aV X.K H p (bs.map V.bl)/\Q (.bl (bs.all id)) H):=by
 intro pins s σ H xs o Q I r h;obtain⟨p,bs,rfl,g,q⟩:=h;obtain⟨u,rfl,j⟩:=vals1 r;cases j;obtain⟨vs,k,pl,hz⟩:=I.list g;have d:=zD k;have a:=pl.isList;have c:p<s.heap.objs.size:=by obtain⟨_,e,_⟩:=a;exact aR e
 refine call_all_walk (qG a ?_);refine⟨s.heap.objs.size,[s.heap.objs.size,p],[s.heap.objs.size],vs.toArray.size,_,_,λi=>(bs[i]?).getD true,rfl,Walks.list (A:=X.A.in1) (I.ok.hd hc) _ p (bB c) vs.toArray,
  ⟨⟨_,cu _ rfl,rfl,rfl⟩,a.push _⟩,λi v s' t w l f=>?_,λh' m n=>?_⟩
 .obtain⟨b,e,rfl⟩:=d.get i v (by simpa using l)
  simp only[e,getD_some] at f;exact nk f
 .have e:((range vs.toArray.size).all λi=>(bs[i]?).getD true)=bs.all id:=by
   rw[cg,d.length];exact LSm.range_all bs
  rw[e];exact⟨.bl _,H,I.kept (h':=h') (t':=m) (LSm.kept_iter n),rfl,q⟩
theorem T6:bL X (binaryOp .FloorDiv) (rI (λ_ j=>0<j/\j.natAbs.log2<9000) λi j=>.int (i/j)):=wj λi j _ _ _ _ _ hc q=>by
 have h1:(0:Int)<j:=hc.1;exact floordiv_int ω (by rw[Int.fdiv_eq_ediv_of_nonneg i ω];exact q) (.inl (PyProof.noPylong_of_log2 hc.2))
noncomputable def yS(y:Str):It:=⟨λi _=>i<y.cps.size,λi H x H'=>H'=H/\∃c,y.cps[i]?=some c/\x=.str ⟨#[c]⟩,λi _=>i=y.cps.size⟩
theorem YU{P:Program}{w:World}{K:Frag}{nm:Str}{px:Pos}{ty:String}{y:Str}{t:Tok}(it:Addr)
  (W:∀A:Around,A.handled=none->Walks P w A it [it] [it] y.cps.size (SignAt y) (λi h=>h.IsStrIter it ty y t i))
  (F:∀(A:Around) (i:Nat) (s:Shared) (Q:aU) (E:aU),s.heap.IsStrIter it ty y t i->Q (.ref it) s->wpAny (model P w) A (pyIter (.ref it)) Q E s):Turn P w K (.Name nm px) (yS y) [it] it (λi h=>h.IsStrIter it ty y t i) where
 mem:=θ
 obj:=λi h st b a=>by
  have e:b=it:=by simpa using a
  subst e
  obtain⟨o,e,c,d⟩:=st
  exact⟨o,e,λv z=>by rw[d] at z;cases z⟩
 keep:=λi h h' st k=>let ⟨o,G,r⟩:=st;⟨o,k it θ o G,r⟩
 item:=by
  intro X f j l hc i pins s σ H E I g st m
  subst f j l
  obtain⟨f0,f1,f2,n,f4,p⟩:=g it θ
  refine(W X.A (I.ok.hd hc)).item i s _ _ m st λv h' D f q x=> ?_
  obtain⟨c,u,B,rfl⟩:=f
  have J:Inv X pins σ H {s with heap:=h',toks:=D}:=I.turned (λb o a e=>x b o (by simpa using a) e) f0 f1 n f4 p
  exact⟨_,rfl,aD ⟨.str ⟨#[c]⟩,H,J,⟨u,rfl⟩,⟨rfl,c,B,rfl⟩,q,λb a=>(g b a).1⟩⟩
 done:=by
  intro X f j l hc i pins s σ H E I g st m
  subst f j l
  obtain⟨f0,f1,f2,n,f4,p⟩:=g it θ
  have C:i=y.cps.size:=m
  subst C
  exact(W X.A (I.ok.hd hc)).done s _ _ st λh' D x=>⟨rfl,I.turned (λb o a e=>x b o (by simpa using a) e) f0 f1 n f4 p⟩
 self:=λA i s Q E st h=>F A i s Q E st h
noncomputable def Q6(tl:TE):TI:=λσ H R=>tl σ H λx H1=>∃y,x=.str y/\R (yS y) H1
theorem U4{l:Expr}{tl:TE}{nm:Str}{px:Pos}(j:PE X l tl):PI X (.Name nm px) l (Q6 tl):=by
 intro pins s σ H R I h;refine aJ (j pins s σ H _ I h) λv a ⟨x,H1,c,k,m⟩=>?_;obtain⟨y,e,q⟩:=m;subst e;obtain⟨t,rfl⟩:=k;have fin:∀(ty:String) (o:Obj) (W:∀A:Around,A.handled=none->Walks X.prog X.w A a.heap.objs.size [a.heap.objs.size] [a.heap.objs.size] y.cps.size (SignAt y) (λi h=>h.IsStrIter a.heap.objs.size ty y t i))
   (f:∀(A:Around) (i:Nat) (s:Shared) (Q:aU) (E:aU),s.heap.IsStrIter a.heap.objs.size ty y t i->Q (.ref a.heap.objs.size) s->wpAny (model X.prog X.w) A (pyIter (.ref a.heap.objs.size)) Q E s),
   (a.heap.push o).IsStrIter a.heap.objs.size ty y t 0->yY X pins σ (.Name nm px) R (.ref a.heap.objs.size) {a with heap:=a.heap.push o}:=λty o W f st=>by
  refine⟨a.heap.objs.size,[a.heap.objs.size],_,_,H1,rfl,c.kept (t':=a.toks) λb o e=>bu _ e,YU _ W f,st,λb n=>?_,q⟩;have e:b=a.heap.objs.size:=by simpa using n
  subst e;exact c.mP (aF _) (c.hok.fresh (aF _))
 cases g:y.cps.all (·<128)
 .exact wpAny_pyIter_wide g (fin _ _ (λA' d=>Walks.strWide d _ y t) (λ_ _ _ _ _ st h=>wpAny_pyIter_striter_wide st h) ⟨_,cu _ rfl,rfl,rfl⟩)
 .exact wpAny_pyIter_ascii g (fin _ _ (λA' d=>Walks.strAscii d _ y t) (λ_ _ _ _ _ st h=>wpAny_pyIter_striter_ascii st h) ⟨_,cu _ rfl,rfl,rfl⟩)
end
mutual
inductive Dp(K:Frag)(H:Hp):V->PyData->Prop
 |aG:Dp K H .aG .none
 |bl (b:Bool):Dp K H (.bl b) (.bool b)
 |int (i:Int):Dp K H (.int i) (.int i)
 |str (x:Str):Dp K H (.str x) (.str x)
 |lst {a:Addr} {xs:List V} {ds:List PyData}:aV K H a xs->gI K H xs ds->Dp K H (.ref a) (.list ds)
 |tup {a:Addr} {xs:List V} {ds:List PyData}:bP K H a xs->gI K H xs ds->Dp K H (.ref a) (.tuple ds)
inductive gI(K:Frag)(H:Hp):List V->List PyData->Prop
 |nil:gI K H [] []
 |cons {v:V} {vs:List V} {d:PyData} {ds:List PyData}:Dp K H v d->gI K H vs ds->gI K H (v::vs) (d::ds)
end
section
variable{X:Cx}{pins:aZ}{σ:St}{H H':Hp}{s:Shared}{K:Frag}
mutual
theorem Dp.reads(I:Inv X pins σ H s):∀(d:PyData) (v:V) (u:Value),Dp X.K H v d->RelV v u->∃as,Reads s.heap u d as
 |.none,_,_,h,r=>by cases h;cases r;exact⟨_,.none⟩
 |.bool b,_,_,h,r=>by cases h;cases r;exact⟨_,.bool b⟩
 |.int i,_,_,h,r=>by cases h;obtain⟨t,rfl⟩:=r;exact⟨_,.int i t⟩
 |.str x,_,_,h,r=>by cases h;obtain⟨t,rfl⟩:=r;exact⟨_,.str x t⟩
 |.list ds,_,_,h,r=>by
  cases h with
  |lst a c=>
   cases r;obtain⟨its,f,pl,hz⟩:=I.list a;obtain⟨as,ra⟩:=gI.reads I ds _ _ c f;obtain⟨o,e,hc,n,hd⟩:=pl.isList;exact⟨_,.list e hc hd (by simpa using ra)⟩
 |.tuple ds,_,_,h,r=>by
  cases h with
  |tup a c=>
   cases r;obtain⟨its,f,pl,hz⟩:=I.tuple a;obtain⟨as,ra⟩:=gI.reads I ds _ _ c f;obtain⟨o,e,hc,n,hd⟩:=pl;exact⟨_,.tuple e hc hd (by simpa using ra)⟩
 |.dict _,_,_,h,_=>nomatch h
theorem gI.reads(I:Inv X pins σ H s):∀(ds:List PyData) (vs:List V) (a:List Value),gI X.K H vs ds->Vals vs a->∃as,ReadsAll s.heap a ds as
 |[],_,_,h,r=>by cases h;cases r;exact⟨_,.nil⟩
 |d::ds,_,_,h,r=>by
  cases h with
  |cons h1 h2=>
   cases r with
   |cons b c=>
    obtain⟨as,a1⟩:=Dp.reads I d _ _ h1 b;obtain⟨bs,a2⟩:=gI.reads I ds _ _ h2 c;exact⟨_,.cons a1 a2⟩
end
noncomputable def Bm(K:Frag):R2:=λx y H Q=>∃d e,Dp K H x d/\Dp K H y e/\d.canLay0=true/\e.canLay0=true/\min d.depth e.depth<=64/\Q (.bl (PyData.eqv d e)) H
noncomputable def Bq(K:Frag):R2:=λx y H Q=>∃d e,Dp K H x d/\Dp K H y e/\d.canLay0=true/\e.canLay0=true/\min d.depth e.depth<=64/\Q (.bl (!PyData.eqv d e)) H
theorem T5(i:X.A.units+64<cLine):bL X (compareOp .Eq) (Bm X.K):=by
 intro pins s σ H x y v u Q I a b h;obtain⟨d,e,h1,h2,c,f,hd,q⟩:=h;obtain⟨as,ra⟩:=Dp.reads I d x v h1 a;obtain⟨bs,g⟩:=Dp.reads I e y u h2 b;exact SeqAt.compareEq_reads ra g c f ω ⟨.bl _,H,I,rfl,q⟩
theorem Ue(i:X.A.units+64<cLine):bL X (compareOp .NotEq) (Bq X.K):=by
 intro pins s σ H x y v u Q I a b h;obtain⟨d,e,h1,h2,c,f,hd,q⟩:=h;obtain⟨as,ra⟩:=Dp.reads I d x v h1 a;obtain⟨bs,g⟩:=Dp.reads I e y u h2 b;exact SeqAt.compareNe_reads ra g c f ω ⟨.bl _,H,I,rfl,q⟩
theorem k_.new{p:Addr}(h:H p=none)(o:HO):k_ H (upd H p o):=λb u q=>by rw[bf (dh q h)];exact q
theorem gI.ints:∀(xs:List Int),gI K H (xs.map V.int) (xs.map PyData.int)
 |[]=>.nil
 |x::r=>.cons (.int x) (gI.ints r)
end
section
variable{P:Program}{w:World}{K:Frag}{mg:aB}{base:Heap}
def TopD(K:Frag)(mg:aB)(x:Str)(st:Stmt)(ps:List Str):Prop:=∃f fd,k8 K x x st f fd/\Binds K fd ps []/\mg x=some (.ref f)
end
section
variable{X:Cx}{k:Nat}{x:Str}{ps:List Str}{sp:Sp}{e:Expr}{es:List Expr}{t:TA}{p pos:Pos}
theorem T9:bL X (compareOp .LtE) (λx y H Q=>∃i j,x=.str i/\y=.str j/\Q (.bl (!decide (j.cps.toList<i.cps.toList))) H):=by
 intro pins s σ H x y v u Q I a b h;obtain⟨i,j,rfl,rfl,q⟩:=h;obtain⟨t,rfl⟩:=a;obtain⟨t',rfl⟩:=b;exact PySem.P.le_str (cQ I q rfl)
end
noncomputable def yQ(K:Frag)(a:Addr):It:=
 ⟨λi H=>∃xs x,aV K H a xs/\xs[i]?=some x,λi H x H'=>∃p y,H p=none/\x=.ref p/\H'=upd H p (.tup [.int (i:Nat),y])/\∀xs,aV K H a xs->xs[i]?=some y,λi H=>∃xs,aV K H a xs/\xs.length<=i⟩
theorem YO{P:Program}{w:World}{K:Frag}{elts:List Expr}{k:Nat}{pos:Pos}(a e it:Addr)(C:e≠it):
  Turn P w K (.Tuple elts k pos) (yQ K a) [e,it] e (λi h=>(∃old,IsEnum h e it i old)/\h.IsListIter it a i) where
 mem:=θ
 obj:=λi h st b f=>by
  have j:b=e\/b=it:=by simpa using f
  obtain⟨⟨old,t⟩,o,e1,c,d⟩:=st
  rcases j with z|z
  .subst z
   exact⟨_,t,λv z=>nomatch (show Data.fields _=Data.cell v from z)⟩
  .subst z
   exact⟨o,e1,λv z=>by rw[d] at z;cases z⟩
 keep:=λi h h' st kp=>by
  obtain⟨⟨old,t⟩,st⟩:=st
  exact⟨⟨old,kp e θ _ t⟩,st.at λo q=>kp it θ o q⟩
 item:=by
  intro X O Q R hc i pins s σ H E I J st S
  subst O Q R
  obtain⟨xs,x,L,T⟩:=S
  obtain⟨its,U,p,hz⟩:=I.list L
  obtain⟨u,hu,ru⟩:=U.get T
  obtain⟨f0,f1,f2,f3,f4,f5⟩:=J e θ
  obtain⟨M,N,g2,V,W,Y⟩:=J it θ
  obtain⟨⟨old,t⟩,y⟩:=st
  refine wpAny_pyNext_enum_item t y p.isList (x:=u) (by simpa using hu) C λh' ho D hT hsz hk=> ?_
  refine⟨_,rfl,wpAny_letOwnedTupleGo_enum ho λA F l=> ?_⟩
  have B:H s.heap.objs.size=none:=I.hok.fresh (aF _)
  have elt:e<s.heap.objs.size:=aR t
  have Z:it<s.heap.objs.size:=by obtain⟨_,q,_⟩:=y;exact aR q
  have kp:∀b o,b≠e->b≠it->s.heap.get? b=some o->A.get? b=some o:=λb o n1 n2 q=>(l.2 b n1).trans (hk b o n1 n2 q)
  have An:A.get? s.heap.objs.size=some {cls:= .type "tuple",data:= .seq #[.int i s.toks,u]}:=(l.2 _ (kT elt)).trans hT
  have nb:∀b,b∉[e,it]->b≠e/\b≠it:=λb f=>⟨λz=>f (by simp[z]),λz=>f (by simp[z])⟩
  have nT:∀b o,s.heap.get? b=some o->b≠s.heap.objs.size:=λb o q=>bB (aR q)
  have I1:Inv X pins σ (upd H s.heap.objs.size (.tup [.int (i:Nat),x])) {s with heap:=A,toks:=s.toks+1}:=by
   refine I.step (g':=s.gens) (d':=s.drawn) (ch:=[e,it]) (λb f=> ?_) (λb o _ _ f q _=>kp b o (nb b f).1 (nb b f).2 q) (λb o _ _ f q _=>⟨o.slots,kp b o (nb b f).1 (nb b f).2 q⟩)
    (λb o f q n=>by rw[bf (nT b o q)];exact n) (λb o f q=>⟨o,kp b o (nb b f).1 (nb b f).2 q⟩) (λb ys q=>by rw[bf (dh q B)];exact q) (λb o v q=>by rw[bf (dh q B)];exact q)
    (λb ps q=>⟨#[],by rw[bf (dh q B),q];simp⟩) (λm hm=> ?_) (λb v q=> ?_) I.bare
   .have j:b=e\/b=it:=by simpa using f
    rcases j with z|z
    .subst z;exact⟨f3,f1,f4,f5⟩
    .subst z;exact⟨V,N,W,Y⟩
   .obtain⟨o,es,ep,q,r⟩:=hm
    exact⟨o,es,ep,kp _ o (Ne.symm f1) (Ne.symm N) q,r⟩
   .by_cases f:b=s.heap.objs.size
    .subst f
     rw[fh] at q
     cases q
     exact⟨by show 2<=sizeLine;decide,[.int i s.toks,u],.cons ⟨_,rfl⟩ (.cons ru .nil),_,An⟩
    .rw[bf f] at q
     have ne1:∀c v',H c=some v'->c≠e/\c≠it:=λc v' g=>⟨λz=>(by rw[z,f0] at g;cases g),λz=>(by rw[z,M] at g;cases g)⟩
     refine(I.hok b v q).stay (λc w' G g=>kp c w' ?_ ?_ g) (λc g=>by rw[bf (dh g B)];exact g) λc ys g=>by rw[bf (dh g B)];exact g
     .rcases G with z|z
      .rw[z];exact(ne1 b v q).1
      .exact(ne1 c _ z).1
     .rcases G with z|z
      .rw[z];exact(ne1 b v q).2
      .exact(ne1 c _ z).2
  refine⟨.ref s.heap.objs.size,_,I1,rfl,⟨s.heap.objs.size,x,B,rfl,rfl,λys hy=>by rw[I.AG hy L];exact T⟩,⟨⟨u,by simpa using F⟩,D.at λo q=>(l.2 it C.symm).trans q⟩,λb f=> ?_⟩
  have j:b=e\/b=it:=by simpa using f
  rcases j with z|z
  .subst z;rw[bf (bB elt)];exact f0
  .subst z;rw[bf (bB Z)];exact M
 done:=by
  intro X O Q R hc i pins s σ H E I J st S
  subst O Q R
  obtain⟨xs,L,T⟩:=S
  obtain⟨its,U,p,hz⟩:=I.list L
  obtain⟨M,N,g2,V,W,Y⟩:=J it θ
  obtain⟨⟨old,t⟩,y⟩:=st
  have hl:=U.length
  exact wpAny_pyNext_enum_end (I.ok.hd hc) t y p.isList (by simp;omega) λh' eb=>⟨rfl,I.turned (t':=s.toks) (λb o f e=>eb b o f e) M N V W Y⟩
 self:=λ_ _ _ _ _ st h=>by
  obtain⟨⟨old,t⟩,_⟩:=st
  exact wpAny_pyIter_enum t h
section
variable{X:Cx}
noncomputable def QX(K:Frag)(ta:TA):TI:=λσ H R=>ta σ H λvs H1=>∃a xs,vs=[.ref a]/\aV K H1 a xs/\R (yQ K a) H1
theorem UY{l:Expr}{ta:TA}{elts:List Expr}{k:Nat}{tpos p pos:Pos}(j:Gl X "enumerate")(m:X.mg "enumerate"=none)(n:PA X [l] ta)(f:bootBuiltins "enumerate"=some (.type "enumerate"))(o:starEach [l] X.env=[(false,eval l X.env)]:=by rfl):
  PI X (.Tuple elts k tpos) (.Call (.Name "enumerate" p) [l] [] pos) (QX X.K ta):=by
 intro pins s σ H R I h;refine Call_ (jv I j m f (ng (aJ (n pos pins s σ H _ I h) λA c ⟨vs,H1,d,r,t⟩=>?_) o rfl));obtain⟨a,xs,e,v,q⟩:=t;subst e;obtain⟨u,rfl,w⟩:=vals1 r;cases w;obtain⟨its,B,pl,hz⟩:=d.list v;refine call_enumerate_list pl.isList λh' i hit hsz x=>?_;have y:Inv X pins σ H1 {c with heap:=h'}:=d.kept (t':=c.toks) x;refine wpAny_pyIter_enum i ⟨_,[c.heap.objs.size+1,c.heap.objs.size],_,_,H1,rfl,y,YO a _ _ (kT (lS _)),⟨⟨_,i⟩,hit⟩,λb f=>?_,q⟩;have g:b=c.heap.objs.size+1\/b=c.heap.objs.size:=by simpa using f
 rcases g with z|z
 .subst z
  exact d.mP (le_succ _) (d.hok.fresh (le_succ _))
 .subst z
  exact d.mP (aF _) (d.hok.fresh (aF _))
theorem Inv.many{pins:aZ}{σ:St}{H H':Hp}{s:Shared}{h':Heap}{t':Nat}(I:Inv X pins σ H s)(kp:∀b o,s.heap.get? b=some o->h'.get? b=some o)(d:k_ H H')
  (a:∀b o,H' b=some o->H b=some o\/(s.heap.objs.size<=b/\b9 X.prog X.w H' h' b o)):Inv X pins σ H' {s with heap:=h',toks:=t'}:=by
 refine I.un (h':=h') (t':=t') ⟨λb o q _ _ _=>kp b o q,λb o q _ _ _=>⟨o.slots,kp b o q⟩,λb o q n _=>?_,λb o q _=>⟨o,kp b o q⟩,λb xs q=>d _ _ q,λb o u q=>d _ _ q,λb ps q=>⟨#[],by rw[d _ _ q];simp⟩⟩ λb o q=>?_
 .cases e:H' b with
  |none=>rfl
  |some u=>
   rcases a b u e with z|⟨z,_⟩
   .rw[n] at z;cases z
   .exact absurd (cO (aR q) z) (gp _)
 .rcases a b o q with z|⟨_,z⟩
  .exact(I.hok b o z).stay (λc v _ r=>kp c v r) (λc r=>d _ _ r) λc xs r=>d _ _ r
  .exact z
end
inductive rq(K:Frag)(H:Hp):V->Value->Prop where
 |of {x:V} {t:Value} (h:iO K H x t):rq K H x t
 |tup {a:Addr} {xs:List V} (h:bP K H a xs):rq K H (.ref a) (.type "tuple")
 |lst {a:Addr} {xs:List V} (h:aV K H a xs):rq K H (.ref a) (.type "list")
theorem Mb{X:Cx}:eN X (.builtin "isinstance") (λxs H Q=>∃x c t b,xs=[x,.ty c]/\rq X.K H x t/\kitOne X.K t (.type c)=some b/\Q (.bl b) H):=by
 intro pins s σ H xs j Q I r h;obtain⟨x,c,t,b,rfl,ty,e,q⟩:=h;obtain⟨u,k,rfl,d,f⟩:=vals2 r;cases f;cases ty with
 |of ty=>exact Rh I d ty e λa=>⟨.bl b,H,I.tok a,rfl,q⟩
 |tup g=>
  cases d;obtain⟨its,i,⟨o,h1,h2,_⟩,_⟩:=I.tuple g;exact jd kitx_tuple I.fZ ⟨o,h1,h2⟩ e (λz=>nomatch z) λa=>⟨.bl b,H,I.tok a,rfl,q⟩
 |lst g=>
  cases d;obtain⟨its,i,pl,_⟩:=I.list g;obtain⟨o,h1,h2,_⟩:=pl.isList;exact jd kitx_list I.fZ ⟨o,h1,h2⟩ e (λz=>nomatch z) λa=>⟨.bl b,H,I.tok a,rfl,q⟩
end L2
end
namespace MA
theorem P4{a b:Int}(c:0<=a)(d:0<b):Int.gcd b (a%b)=Int.gcd a b:=by
 obtain⟨m,rfl⟩:=Int.eq_ofNat_of_zero_le c;obtain⟨n,rfl⟩:=Int.eq_ofNat_of_zero_le (dR d);rw[<-Int.natCast_emod,Int.gcd_natCast_natCast,Int.gcd_natCast_natCast,Nat.gcd_comm n (m%n),<-Nat.gcd_rec,Nat.gcd_comm]
noncomputable def rf(x:Rat):Int×Int:=(x.num,(x.den:Int))
theorem cR(x:Rat):0<(rf x).2:=by
 have:=x.den_pos;show(0:Int)<(x.den:Int);omega
theorem gh(x:Rat):((rf x).1:Rat)/((rf x).2:Rat)=x:=by
 show(x.num:Rat)/((x.den:Int):Rat)=x;rw[<-Rat.divInt_eq_div,Rat.divInt_ofNat,Rat.mkRat_self]
theorem VZ{x y:Rat}(h:rf x=rf y):x=y:=by rw[<-gh x,<-gh y,h]
theorem xJ{a b:Int}(c:0<b):(a/(Int.gcd a b:Int),b/(Int.gcd a b:Int))=rf ((a:Rat)/(b:Rat)):=by
 rw[<-Rat.divInt_eq_div];unfold rf;have h1:=Rat.num_divInt a b;have h2:=Rat.den_divInt a b;rw[h1,h2];have d:b.sign=1:=Int.sign_eq_one_of_pos c;rw[d,ao ω,one_mul,Int.gcd_comm b a];congr 1;have:(b.natAbs:Int)=b:=ω
 rw[Int.natCast_ediv,this]
inductive aX(N:Type) where
 |wt (n:N)
 |bS (l r:Int) (a b:aX N)
namespace aX
variable{N:Type}
noncomputable def arms:aX N->Prop
 |wt _=>True
 |bS l r a b=>1<=l/\l<=9/\1<=r/\r<=9/\a.arms/\b.arms
noncomputable def deep:aX N->Nat
 |wt _=>0
 |bS _ _ a b=>max a.deep b.deep+1
noncomputable def names:aX N->List N
 |wt n=>[n]
 |bS _ _ a b=>a.names++b.names
noncomputable def sh:aX N->Rat->List Rat
 |wt _,x=>[x]
 |bS l r a b,x=>a.sh (x*((r:Rat)/((l+r:Int):Rat)))++b.sh (x*((l:Rat)/((l+r:Int):Rat)))
theorem lJ:∀(m:aX N),m.names.length<=2 ^ m.deep
 |wt _=>aF 1
 |bS _ _ a b=>by
  have h1:=lJ a;have h2:=lJ b;have c:2 ^ a.deep<=2 ^ max a.deep b.deep:=fj δ (tW _ _);have d:2 ^ b.deep<=2 ^ max a.deep b.deep:=fj δ (tX _ _);show List.length (_++_)<=2 ^ (max a.deep b.deep+1);rw[cM,pow_succ];omega
theorem oh:∀(m:aX N),0<m.names.length
 |wt _=>Nat.zero_lt_one
 |bS _ _ a b=>by
  have h1:=oh a;show 0<List.length (_++_);rw[cM];omega
end aX
theorem Bu:rf 1=(1,1):=by rfl
theorem iB{a:Int}(h:a≠0):(a:Rat)≠0:=by
 intro z;exact h (by exact_mod_cast z)
theorem Bt(t:Rat)(a b:Int):rf ((((rf t).1*a:Int):Rat)/(((rf t).2*b:Int):Rat))=rf (t*((a:Rat)/(b:Rat))):=by
 have h1:=iB (kW (cR t));congr 1;rw[j6,j6];have d:=gh t;by_cases c:(b:Rat)=0
 .rw[c];grind
 .grind
theorem Iv(t s:Rat):rf ((((rf t).1*(rf s).1:Int):Rat)/(((rf t).2*(rf s).2:Int):Rat))=rf (t*s):=by
 rw[Bt,gh]
theorem Nq{a b:Int}(c:0<b):(rf ((a:Rat)/(b:Rat))).2<=b:=by
 rw[<-xJ c];show b/(Int.gcd a b:Int)<=b;exact j8 _ (dR c)
theorem den_mul{t:Rat}{a b:Int}(c:0<b):(rf (t*((a:Rat)/(b:Rat)))).2<=(rf t).2*b:=by
 rw[<-Bt];exact Nq (f_ (cR t) c)
theorem d8{x:Rat}(h:0<x):0<(rf x).1:=by
 have h1:0<=(rf x).1:=Rat.num_nonneg.mpr (Rat.le_of_lt h);have h2:(rf x).1≠0:=λz=>by
  have e:=gh x;rw[z] at e;have a:x=0:=by rw[<-e,lW];grind
  rw[a] at h;exact absurd h δ
 omega
namespace aX
variable{N:Type}
theorem step_pos{l r:Int}{x:Rat}(a:1<=l)(b:1<=r)(h:0<x):0<x*((r:Rat)/((l+r:Int):Rat)):=by
 have h1:(0:Rat)<(r:Rat):=by exact_mod_cast (show(0:Int)<r by omega)
 have h2:(0:Rat)<((l+r:Int):Rat):=by exact_mod_cast (show(0:Int)<l+r by omega)
 exact nv h (by rw[lW];exact nv h1 (uv.mpr h2))
theorem BC:∀(m:aX N) (x:Rat) (B:Int),m.arms->0<x->(rf x).2<=B->∀s∈m.sh x,0<s/\(rf s).2<=B*18 ^ m.deep
 |wt _,x,B,_,h1,h2,s,hs=>by
  have:s=x:=by simpa[sh] using hs
  subst this;exact⟨h1,by simpa[deep] using h2⟩
 |bS l r a b,x,B,h,h1,h2,s,hs=>by
  obtain⟨f,t,g,u,i,j⟩:=h;have n:0<B:=yx (cR x) h2;have o:(rf (x*((r:Rat)/((l+r:Int):Rat)))).2<=B*18:=by
   refine eB (den_mul ω) ?_;exact dQ h2 ω ω ω
  have p:(rf (x*((l:Rat)/((l+r:Int):Rat)))).2<=B*18:=by
   refine eB (den_mul ω) ?_;exact dQ h2 ω ω ω
  have p1:0<x*((r:Rat)/((l+r:Int):Rat)):=step_pos f g h1;have p2:0<x*((l:Rat)/((l+r:Int):Rat)):=by
   have:=step_pos (l:=r) (r:=l) g f h1;rwa [add_comm r l] at this
  have up:∀k:Nat,k<=max a.deep b.deep->B*18*18 ^ k<=B*18 ^ (max a.deep b.deep+1):=λk q=>by
   rw[jB,qz,nj 18 (18 ^ k)];refine qJ ?_ (dR n);refine Co ?_ δ;have:(18:Nat) ^ k<=18 ^ max a.deep b.deep:=fj δ q;exact_mod_cast this
  have c:s∈a.sh (x*((r:Rat)/((l+r:Int):Rat)))\/s∈b.sh (x*((l:Rat)/((l+r:Int):Rat))):=bX.mp hs;rcases c with hs|hs
  .obtain⟨d,e⟩:=BC a _ _ i p1 o s hs
   exact⟨d,eB e (up _ (tW _ _))⟩
  .obtain⟨d,e⟩:=BC b _ _ j p2 p s hs
   exact⟨d,eB e (up _ (tX _ _))⟩
end aX
noncomputable def cP{W N S:Type}[DecidableEq N][DecidableEq S](pre:List (W×N×S)):List (W×N×S)->Option (W×W)
 |[]=>none
 |(w,n,s)::r=>match pre.find? (λp=>decide (p.2.1=n)) with
  |some p=>if p.2.2=s then cP (pre++[(w,n,s)]) r else some (p.1,w)
  |none=>cP (pre++[(w,n,s)]) r
end MA
section
open PySem PySem.Spec PyProof.Rows
namespace L2
section
variable{P:Program}{w:World}{H H':Hp}{h:Heap}{a:Addr}{o:HO}
theorem b9.obj(x:b9 P w H h a o):∃u,h.get? a=some u:=by
 cases o with
 |lst xs=>obtain⟨_,_,_,_,e⟩:=x;exact⟨_,e⟩
 |tup xs=>obtain⟨_,_,_,_,e⟩:=x;exact⟨_,e⟩
 |dK kvs=>obtain⟨_,_,_,_,o,_,_,e,_⟩:=x;exact⟨_,e⟩
 |dT kvs=>obtain⟨_,_,_,_,o,_,_,e,_⟩:=x;exact⟨_,e⟩
 |set S n=>obtain⟨o,_,_,_,e,_⟩:=x;exact⟨_,e⟩
 |ins C dx fs=>obtain⟨_,_,_,e,_⟩:=x;exact⟨_,e⟩
 |own y=>exact x
 |xd fs=>obtain⟨_,⟨_,_,_,e,_⟩,_⟩:=x;exact⟨_,e⟩
 |fK lo hi=>obtain⟨_,_,_,e⟩:=x;exact⟨_,e⟩
 |bT b u=>obtain⟨e,_⟩:=x;exact⟨_,e⟩
 |ja ps=>exact⟨_,(show h.get? a=some _ from x)⟩
 |met f y=>exact⟨_,(show h.get? a=some _ from x)⟩
 |ext c=>obtain⟨_,e,_⟩:=x;exact e
end
structure CM(P:Program)(w:World)(outer:List Env)(H H':Hp)(s s':Shared)(a:Addr)(C:Value):Prop where
 os:s'.os=s.os
 bare:AllBare s'.gens
 slot:∀b o,s.heap.get? b=some o->b∈frs outer->∃sl,s'.heap.get? b=some {o with slots:=sl}
 free:∀b o,s.heap.get? b=some o->H b=none->H' b=none
 tups:∀b xs,H b=some (.tup xs)->H' b=some (.tup xs)
 gP:∀b o u,H b=some (.bT o u)->H' b=some (.bT o u)
 iI:∀b ps,H b=some (.ja ps)->∃more,H' b=some (.ja (ps++more))
 fl:∃(B:Heap) (a0:Value),(∀b o,s.heap.get? b=some o->H b=none->b∉frs outer->B.get? b=some o)/\(∀b o,s.heap.get? b=some o->b∉frs outer->∃o',B.get? b=some o')/\cT P w H' B/\Heap.FlyingW B outer a C a0 s'.heap
noncomputable def bV(P:Program)(w:World):ji:=λouter H s E e s'=>∃(a:Addr) (C:Value) (H':Hp),e=.ref a/\CM P w outer H H' s s' a C/\E C none H'
section
variable{X:Cx}{pins:aZ}{σ:St}{H H':Hp}{s s':Shared}{a:Addr}{C:Value}
theorem FI(I:Inv X pins σ H s)(hex:X.ex=[])(os:s'.os=s.os)(bare:AllBare s'.gens)(slot:∀b o,s.heap.get? b=some o->b∈frs X.outer->∃i,s'.heap.get? b=some {o with slots:=i})
  (free:∀b o,s.heap.get? b=some o->H b=none->H' b=none)(tups:∀b xs,H b=some (.tup xs)->H' b=some (.tup xs))(gP:∀b o u,H b=some (.bT o u)->H' b=some (.bT o u))
  (iI:∀b ps,H b=some (.ja ps)->∃d,H' b=some (.ja (ps++d)))
  (fl:∃(B:Heap) (a0:Value),(∀b o,s.heap.get? b=some o->H b=none->b∉frs X.stack->B.get? b=some o)/\(∀b o,s.heap.get? b=some o->b∉frs X.stack->∃o',B.get? b=some o')/\cT X.prog X.w H' B/\Heap.FlyingW B X.outer a C a0 s'.heap):
  CM X.prog X.w X.outer X.H₀ H' X.s₀ s' a C:=by
 have nx:∀b:Addr,b∉X.ex:=λb=>by rw[hex];simp
 have g:∀b o,X.s₀.heap.get? b=some o->b∉frs X.outer->b∉frs X.stack:=λb o q c z=>by
  rcases aY.mp (I.qi b z) with e|e
  .exact absurd (cO (aR q) I.ok.above) (by rw[e];exact gp _)
  .exact c e
 refine⟨os.trans I.os,bare,λb o q c=> ?_,λb o q n=> ?_,λb xs q=>tups b xs (I.base.tups b xs q),λb o u q=>gP b o u (I.base.gP b o u q),λb ps q=> ?_,?_⟩
 .obtain⟨i,e⟩:=I.base.slot b o q (I.ok.pR b c) c (nx b)
  obtain⟨j,l⟩:=slot b _ e c
  exact⟨j,l⟩
 .obtain⟨i,e⟩:=I.base.any q n (nx b)
  exact free b _ e (I.base.free b o q n (nx b))
 .obtain⟨m,p⟩:=I.base.iI b ps q
  obtain⟨r,v⟩:=iI b _ p
  exact⟨m++r,by rw[v,Array.append_assoc]⟩
 .obtain⟨B,a0,k,t,h,f⟩:=fl
  refine⟨B,a0,λb o q n c=>k b o (I.base.keep b o q n c (nx b)) (I.base.free b o q n (nx b)) (g b o q c),λb o q c=> ?_,h,f⟩
  obtain⟨o',e⟩:=I.base.there b o q (nx b)
  exact t b o' e (g b o q c)
end
def Raises(X:Cx)(E:XK):Prop:=∀(pins:aZ) (σ:St) (H:Hp) (s:Shared) (e:Addr) (h':Heap) (C:Value) (args:List Value),Inv X pins σ H s->Heap.MadeExcOf s.heap h' e C args->E C none H->X.xe (.ref e) {s with heap:=h'}
section
variable{P:Program}{w:World}{K:Frag}{mg:aB}{base:Heap}{N:List Str}{qual:Str}{scope:Scope}{f:Addr}{cd:Value}{A:Around}{outer:List Env}{s:Shared}{H:Hp}{E:XK}
theorem FQ{env:Env}{l:List Env}{b:Addr}(h:b∈frs l):b∈frs (env::l):=by
 obtain⟨e,a,c⟩:=qx.mp h;exact qx.mpr ⟨e,bq _ a,c⟩
theorem Ip:Raises (cZ (bV P w) P w K mg base N qual scope f cd A outer s H E) E:=by
 intro pins σ H1 j e h' C args I i k;have stk:=I.stack;have we:∀b o,H1 b=some o->b∉frs (cZ (bV P w) P w K mg base N qual scope f cd A outer s H E).stack:=λb o q z=>by
  rw[I.BH b z] at q;cases q
 have h:∀a∈(cZ (bV P w) P w K mg base N qual scope f cd A outer s H E).stack,∀b,a.frame=some b->b∈frs (cZ (bV P w) P w K mg base N qual scope f cd A outer s H E).stack:=λa l b d=>qx.mpr ⟨a,l,d⟩;show wpAny (model P w) _ (leaving _ (.ref e)) _ _ _;refine wpAny_leaves_madeW (base:=hideAll j.heap (frs (cZ (bV P w) P w K mg base N qual scope f cd A outer s H E).stack)) I.ok.frames rfl (λb o q=>of_hideAll _ q) (PySem.W.funFrames_hide stk h) i λm t fl tup p up=>?_;refine⟨e,C,H1,rfl,FI I rfl rfl I.bare (λb o q d=>?_) (λ_ _ _ n=>n) (λ_ _ q=>q) (λ_ _ _ q=>q) (λ_ ps q=>⟨#[],by rw[q];simp⟩) ⟨_,_,λb o q n d=>hideAll_get _ q d,λb o q d=>⟨o,hideAll_get _ q d⟩,λb o q=>?_,fl⟩,k⟩
 .obtain⟨_,o',g,hd⟩:=stk.mem (FQ (env:=envOfC qual scope s.heap.objs.size f cd) d)
  rw[q] at g;cases g;exact up b o (i.keeps b o q) hd
 .refine(I.hok b o q).stay (λc u hc r=>hideAll_get _ r ?_) (λ_ r=>r) λ_ _ r=>r
  rcases hc with z|z
  .rw[z];exact we b o q
  .exact we c _ z
theorem HK:Passes (bV P w) (cZ (bV P w) P w K mg base N qual scope f cd A outer s H E) E:=by
 intro pins σ H1 p e s' I h;obtain⟨a,C,H',rfl,F,j⟩:=h;obtain⟨B,a0,k,th,hok,fl⟩:=F.fl;show wpAny (model P w) _ (leaving _ (.ref a)) _ _ _;refine wpAny_leaves_onW I.ok.frames rfl fl λl g up=>⟨a,C,H',rfl,FI I rfl F.os F.bare (λb o q m=>?_) F.free F.tups F.gP F.iI ⟨B,a0,k,th,hok,g⟩,j⟩;have c:=FQ (env:=envOfC qual scope s.heap.objs.size f cd) m;obtain⟨r,e⟩:=F.slot b o q c;obtain⟨_,o',d,hd⟩:=fl.2.2.1.mem c;rw[e] at d;cases d;obtain⟨i,n⟩:=up b _ e hd;exact⟨i,n⟩
theorem dM:PassesOwn (model P w) (cZ (bV P w) P w K mg base N qual scope f cd A outer s H E).A (cZ (bV P w) P w K mg base N qual scope f cd A outer s H E).env (cZ (bV P w) P w K mg base N qual scope f cd A outer s H E).xe:=
 PassesOwn.leaving
end
abbrev jW:List Value:=[.type "ValueError",.type "Exception",.type "BaseException",.type "object"]
theorem Oe{K:Frag}{h:Heap}{C:Addr}{b:List Value}{newId:String}(X:K.In h)(q:excIn K C b newId=true):∃nm d N bs bm hdct sn sub ab col dd k0 k1 k2 k3 k5,∃mN:aB,
  h.get? C=some (excClassObj nm d C N bs bm hdct sn sub ab col dd k0 k1 k2 k3 k5 newId)/\h.Ns N mN/\mN "__init__"=none/\OwnTail h b bm:=by
 unfold excIn at q;split at q
 .rename_i dd cd f j
  split at q
  .rename_i m bm k0 k1 k2 k3 n k5 g i
   simp only[kX,beq_iff_eq,Bool.not_eq_true'] at q;obtain⟨⟨⟨⟨⟨rfl,rfl⟩,a⟩,k⟩,hok⟩,c⟩:=q;obtain⟨nm,bs,mro,ns,d,hd,sn,sub,ab,col,del⟩:=cd;dsimp only at g a hok c;subst g a;have e:f= #[k0,k1,k2,k3,some (.builtin n),k5]:=by
    obtain⟨l⟩:=f;simp only at i;rw[i]
   subst e;exact⟨nm,d,ns,bs,bm,hd,sn,sub,ab,col,dd,k0,k1,k2,k3,k5,_,X _ _ j,.of_isNs (PySem.W.isNs_of_in X hok),PySem.W.nsMap_none_of_in X hok c,PySem.W.tail_of_in X k⟩
  .cases q
 .cases q
section
variable{X:Cx}{E:XK}{x:Str}{C:Addr}{e:Expr}{t:TA}{np cpos pos:Pos}
def Yt(E:XK)(C:Addr)(t:TA):TS:=λ_ σ H=>t σ H λvs H1=>vs.length<=sizeLine/\E (.ref C) none H1
theorem Vt(j:Raises X E)(hc:X.calm=true)(k:X.mg x=some (.ref C))(l:excIn X.K C jW "ValueError.__new__"=true)(m:PA X [e] t)(n:Gl X x:=by rfl)(b:(x==("__debug__":Str))=false:=by decide)
  (f:starEach [e] X.env=[(false,eval e X.env)]:=by rfl):PS X (.Raise (some (.Call (.Name x np) [e] [] cpos)) none pos) (Yt E C t):=by
 intro pins s σ H D I h;obtain⟨nm,o,N,bs,bm,hdct,sn,sub,ab,col,dd,k0,k1,k2,k3,k5,mN,c,p,d,g⟩:=Oe I.mod.vN l;refine wpAny_Raise_call_subT (nm:=nm) (q:=o) (C:=C) (N:=N) (bs:=bs) (bm:=bm) (hdct:=hdct) (sn:=sn) (sub:=sub) (ab:=ab) (col:=col) (dd:=dd) (k0:=k0) (k1:=k1) (k2:=k2) (k3:=k3) (k5:=k5) (mN:=mN) PySem.F.excBase_ValueError (g.hasType η) (I.ok.hd hc) (by rw[f];rfl) d (AA I n k ⟨rfl,?_⟩ b);have h':=m cpos pins s σ H _ I h;rw[f] at h' ⊢;refine Calls.evalArgs_plain (aJ h' λr y ⟨vs,H1,a,u,i⟩=>?_);have v:=u.length;exact⟨rfl,by show r.length<=sizeLine;rw[<-v];exact i.1,a.bk _ _ c,p.keeps a.bk,g.keeps a.bk,λh2 z w=>j _ _ _ _ _ _ _ _ a w i.2⟩
end
def excAt(a:Addr)(C:Value)(h:Heap):Prop:=∃o,h.get? a=some o/\o.cls=C
abbrev Od(a C:Addr):HO:=.ext (excAt a (.ref C))
section
variable{P:Program}{w:World}{K:Frag}{mg:aB}{base:Heap}
def aj(P:Program)(w:World)(K:Frag)(mg:aB)(base:Heap)(k:Nat)(x:Str)(ps:List Str)(sp:Sp):Prop:=
 ∃f fd,gb P w K mg base (bV P w) k f fd ps sp/\Binds K fd ps []/\keepIn K (.ref f)=true/\mg x=some (.ref f)
theorem aj.mono{j k:Nat}{x:Str}{ps:List Str}{sp:Sp}(F:aj P w K mg base j x ps sp)(h:j<=k):aj P w K mg base k x ps sp:=by
 obtain⟨f,fd,F,r⟩:=F;exact⟨f,fd,F.mono h,r⟩
theorem TopD.fnX{x:Str}{st:Stmt}{N ps:List Str}{k:Nat}{sp:Sp}(T:TopD K mg x st ps)(S:aW N ps (aI st))(len:∀vs H Q E,sp vs H Q E->vs.length=ps.length)
  (c:∀(f:Addr) (a:Value) (A:Around) (outer:List Env) (s:Shared) (H:Hp) (vs:List V) (Q:VK) (E:XK),dW k (A.deeper (envOfC x (aI st) s.heap.objs.size f a))->sp vs H Q E->
   ∃t,dU (cZ (bV P w) P w K mg base N x (aI st) f a A outer s H E) (iD st) t/\t {nx:=λ_ H'=>Q .aG H',rt:=Q} (start N vs) H):aj P w K mg base (k+1) x ps sp:=by
 obtain⟨f,fd,F,b,m⟩:=T;have kp:=F.kp;obtain⟨i,j,kV,doc,pm,an,a,ct,g,rfl,lk,d⟩:=F.ex;exact⟨f,_,FJ lk d S len λA outer s H vs Q E h e=>c f a A outer s H vs Q E h e,b,kp,m⟩
end
section
variable{X:Cx}{k:Nat}{x:Str}{ps:List Str}{sp:Sp}{e fe:Expr}{es:List Expr}{t:TA}{tf:TE}{p pos:Pos}{E:XK}
theorem Uw(F:aj X.prog X.w X.K X.mg X.base k x ps sp)(d:dW k X.A)(g:Passes (bV X.prog X.w) X E)(h:PA X (e::es) t)(i:Gl X x:=by rfl)(a:(x==("__debug__":Str))=false:=by decide)
  (j:starEach (e::es) X.env=(false,eval e X.env)::starEach es X.env:=by rfl)(c:(backTo pos (starEach es X.env)).any (·.1)=false:=by rfl):
  PE X (.Call (.Name x p) (e::es) [] pos) (Kv sp [] E t):=by
 obtain⟨f,fd,F,b,kp,m⟩:=F;exact Uu F d i m kp b .nil g h a j c
end
end L2
namespace SR
abbrev Rs(xs:Array Nat):Prop:=xs.toList.Pairwise (·<·)
theorem Rs.lt{xs:Array Nat}(h:Rs xs){a b:Nat}(c:a<b)(d:b<xs.size):xs.getD a 0<xs.getD b 0:=by
 have:=uc.mp h a b (by simp;omega) (by simp;omega) c;rw[iM,iM,eT ω,eT d];simpa using this
theorem Ah(xs:Array Nat)(d:Rs xs)(j:Nat):∀(fuel lo hi:Nat),hi<=xs.size->lo<=hi->hi - lo<=fuel->(∀i,i<lo->xs.getD i 0<j)->(∀i,hi<=i->i<xs.size->j<=xs.getD i 0)->
  SetTable.below.go xs j fuel lo hi<=xs.size/\(∀i,i<SetTable.below.go xs j fuel lo hi->xs.getD i 0<j)/\∀i,SetTable.below.go xs j fuel lo hi<=i->i<xs.size->j<=xs.getD i 0
 |0,lo,hi,h1,h2,l,f,g=>by
  have e:lo=hi:=ω
  show lo<=_/\(∀i,i<lo->_)/\∀i,lo<=i->_;exact⟨ω,f,λi c=>g i ω⟩
 |fuel+1,lo,hi,h1,h2,l,f,g=>by
  unfold SetTable.below.go;by_cases h:lo<hi
  .rw[aA h]
   dsimp only;have k:(lo+hi)/2<xs.size:=ω
   have e:xs.getD ((lo+hi)/2) j=xs.getD ((lo+hi)/2) 0:=by
    rw[iM,iM,eT k];rfl
   rw[e];by_cases hc:xs.getD ((lo+hi)/2) 0<j
   .rw[aA hc]
    refine Ah xs d j fuel _ hi h1 ω ω (λi c=>?_) g;by_cases z:i=(lo+hi)/2
    .rw[z];exact hc
    .have:=d.lt (a:=i) (b:=(lo+hi)/2) ω k
     omega
   .rw[ao hc]
    refine Ah xs d j fuel lo _ ω ω ω f (λi c m=>?_);by_cases z:i=(lo+hi)/2
    .rw[z];omega
    .have:=d.lt (a:=(lo+hi)/2) (b:=i) ω m
     omega
  .rw[ao h]
   exact⟨ω,f,λi c=>g i ω⟩
theorem uS{xs:Array Nat}(a:Rs xs)(j:Nat):SetTable.below xs j<=xs.size/\(∀i,i<SetTable.below xs j->xs.getD i 0<j)/\∀i,SetTable.below xs j<=i->i<xs.size->j<=xs.getD i 0:=
 Ah xs a j xs.size 0 xs.size (aF _) (bQ _) ω (λi h=>absurd h (ua _)) (λi h1 h2=>absurd h2 ω)
theorem F2{xs:Array Nat}{i:Nat}(h:i<xs.size):xs[i]?=some (xs.getD i 0):=by
 rw[iM,eT h];rfl
theorem DZ{xs:Array Nat}(a:Rs xs):SetTable.below xs 0=0:=by
 obtain⟨h1,h2,b⟩:=uS a 0;by_cases z:SetTable.below xs 0=0
 .exact z
 .exact absurd (h2 0 ω) (ua _)
theorem DY{xs:Array Nat}(c:Rs xs){i:Nat}(hi:i<xs.size):SetTable.below xs (xs.getD i 0+1)=i+1:=by
 obtain⟨h1,h2,d⟩:=uS c (xs.getD i 0+1);have a1:i<SetTable.below xs (xs.getD i 0+1):=by
  by_cases z:i<SetTable.below xs (xs.getD i 0+1)
  .exact z
  .have:=d i ω hi
   omega
 by_cases z:i+1<SetTable.below xs (xs.getD i 0+1)
 .have a2:=h2 (i+1) z
  have a3:=c.lt (a:=i) (b:=i+1) ω ω;omega
 .omega
theorem L0{xs:Array Nat}(b:Rs xs){j:Nat}(h:j∈xs.toList):xs[SetTable.below xs j]?=some j:=by
 obtain⟨i,hi,e⟩:=jc h;have a:i<xs.size:=by simpa using hi
 have c:xs.getD i 0=j:=by
  rw[iM,eT a];simpa using e
 obtain⟨h1,h2,d⟩:=uS b j;have a1:SetTable.below xs j=i:=by
  rcases Nat.lt_trichotomy (SetTable.below xs j) i with z|z|z
  .have a2:=d _ (aF _) ω
   have a3:=b.lt z a;omega
  .exact z
  .have:=h2 i z
   omega
 rw[a1,F2 a,c]
theorem Ra{xs:Array Nat}(f:Rs xs){j:Nat}(o:j∉xs.toList):Rs (SetTable.insertAt xs (SetTable.below xs j) j):=by
 obtain⟨h1,h2,h⟩:=uS f j;unfold SetTable.insertAt Rs;have e:((xs.extract 0 (SetTable.below xs j)).push j++xs.extract (SetTable.below xs j) xs.size).toList=xs.toList.take (SetTable.below xs j)++(j::xs.toList.drop (SetTable.below xs j)):=by
  simp[Array.toList_append,Array.toList_extract];exact qD θ
 rw[e];refine List.pairwise_append.mpr ⟨f.sublist (List.take_sublist _ _),gU.mpr ⟨λy p=>?_,f.sublist (List.drop_sublist _ _)⟩,λa q b hb=>?_⟩
 .obtain⟨i,hi,e⟩:=jc p
  rw[qu] at hi;rw[List.getElem_drop] at e;have c:SetTable.below xs j+i<xs.size:=by simp at hi;omega
  have:=h (SetTable.below xs j+i) ω c;rw[iM,eT c] at this;have l:xs[SetTable.below xs j+i]=y:=by simpa using e
  have this:j<=y:=by rw[<-l];exact this
  have r:j≠y:=λz=>o (by rw[z,<-l];simp);omega
 .obtain⟨i,hi,e⟩:=jc q
  rw[kR] at hi;rw[List.getElem_take] at e;have c:i<xs.size:=ω
  have:=h2 i ω;rw[iM,eT c] at this;have s:xs[i]=a:=by simpa using e
  have g:a<j:=by rw[<-s];exact this
  rcases aY.mp hb with z|hb
  .rw[z];exact g
  .obtain⟨k,m,n⟩:=jc hb
   rw[qu] at m;rw[List.getElem_drop] at n;have d:SetTable.below xs j+k<xs.size:=by simp at m;omega
   have:=h (SetTable.below xs j+k) ω d;rw[iM,eT d] at this;have t:xs[SetTable.below xs j+k]=b:=by simpa using n
   have:j<=b:=by rw[<-t];exact this
   omega
theorem XF{t:SetTable}(a:Rs t.place){j:Nat}(h:∀i,t.slot j≠ .live i):j∉t.place.toList:=λb=>by
 refine h (SetTable.below t.place j) ?_;unfold SetTable.slot;dsimp only;rw[L0 a b];simp
theorem Bg{t:SetTable}{f:Nat->Int}{h:Int}:∀(fuel:Nat) (p:SetTable.Probe),(∀d,p.dummy=some d->t.slot d=.dummy)->∀j a,SetTable.probe.go t f h fuel p=some (.empty j a)->t.slot j=.empty/\∀d,a=some d->t.slot d=.dummy
 |0,p,_,j,a,e=>by cases e
 |fuel+1,p,g,j,a,e=>by
  unfold SetTable.probe.go at e;have b:∀q:SetTable.Probe,(t.advance q).dummy=q.dummy:=λq=>by
   unfold SetTable.advance;split<;>rfl
  cases c:t.slot p.j with
  |empty=>
   rw[c] at e;cases e;exact⟨c,g⟩
  |dummy=>
   rw[c] at e;exact Bg fuel _ (λd hd=>by
    rw[b] at hd;cases hd;exact c) j a e
  |live i=>
   rw[c] at e;dsimp only at e;split at e
   .cases e
   .exact Bg fuel _ (λd hd=>by rw[b] at hd;exact g d hd) j a e
theorem PL{t:SetTable}(f:Rs t.place){h:Int}{j:Nat}{b:Bool}(e:t.freeSlot h=some (j,b)):j∉t.place.toList:=by
 unfold SetTable.freeSlot at e;split at e
 .rename_i a c g
  obtain⟨h1,h2⟩:=Bg _ _ (λd hd=>by unfold SetTable.probeStart at hd;cases hd) a c g;cases e;refine XF f λi=>?_;cases c with
  |none=>show t.slot a≠_;rw[h1];intro z;cases z
  |some d=>show t.slot d≠_;rw[h2 d rfl];intro z;cases z
 .cases e
theorem VR(n:Nat):Rs (Array.range n):=by
 unfold Rs;rw[Array.toList_range];exact List.pairwise_lt_range
theorem xQ(t:SetTable)(n:Nat):Rs (t.standIn n).place:=VR n
theorem Um{t:SetTable}(n:Nat)(h:Rs t.place):Rs (t.orStandIn n).place:=by
 unfold SetTable.orStandIn;split
 .exact h
 .exact xQ _ _
theorem Sd{t:SetTable}(a:Rs t.place)(es:Array (Int×Value))(h:Int)(x:Value):Rs (layNew t es h x).2.1.place:=by
 unfold layNew;split
 .rename_i slot c b
  exact Um _ (Ra a (PL a b))
 .exact xQ _ _
theorem R8{mask finger moves:Nat}{led plain:Bool}{d:Array Int}{t:SetTable}{o:Array Nat}(h:SetTable.laid mask finger moves led plain d=some (t,o)):Rs t.place:=by
 unfold SetTable.laid at h;obtain⟨w,_,h⟩:=Option.bind_eq_some_iff.mp h;cases h;unfold Rs;dsimp only;rw[jA,List.pairwise_filterMap];refine List.pairwise_lt_range.imp λ {a b} c p e q f=>?_;obtain⟨_,_,rfl⟩:=map_eq_some_iff.mp e;obtain⟨_,_,rfl⟩:=map_eq_some_iff.mp f;exact c
theorem VY(t:SetTable)(es:Array (Int×Value))(n:Nat):Rs (relayAll t es n).2.1.place:=by
 unfold relayAll;split
 .rename_i t' o e
  dsimp only;split
  .exact R8 e
  .exact xQ _ _
 .exact xQ _ _
end SR
namespace SS
theorem Uk(t:SetTable)(n:Nat):(t.orStandIn n).led=t.led:=by
 unfold SetTable.orStandIn;split<;>rfl
theorem Ul(t:SetTable)(n:Nat)(h:t.plain=false):(t.orStandIn n).plain=false:=by
 unfold SetTable.orStandIn;split
 .exact h
 .rfl
theorem Sa(t:SetTable)(es:Array (Int×Value))(h:Int)(x:Value):(layNew t es h x).2.1.led=t.led:=by
 unfold layNew;split
 .exact Uk _ _
 .rfl
theorem Sb(t:SetTable)(es:Array (Int×Value))(h:Int)(x:Value)(a:t.plain=false):(layNew t es h x).2.1.plain=false:=by
 unfold layNew;split
 .exact Ul _ _ a
 .rfl
theorem R7{mask finger moves:Nat}{led plain:Bool}{a:Array Int}{t:SetTable}{o:Array Nat}(h:SetTable.laid mask finger moves led plain a=some (t,o)):t.led=led/\t.plain=plain:=by
 unfold SetTable.laid at h;obtain⟨w,_,h⟩:=Option.bind_eq_some_iff.mp h;cases h;exact⟨rfl,rfl⟩
theorem VX(t:SetTable)(es:Array (Int×Value))(n:Nat):(relayAll t es n).2.1.led=t.led:=by
 unfold relayAll;split
 .rename_i t' o e
  dsimp only;split
  .exact(R7 e).1
  .rfl
 .rfl
structure Kd(prog:Program)(w:World)(α:Type)[DecidableEq α] where
 kd:PySem.KeyKind prog w α
 mv:α->Tok->Value
 kf:Value->α
 om:∀x t,kf (mv x t)=x
 sc:∀x t,(mv x t).scannable=true
 sh:∀k v,kd.is k v=true->∃t,v=mv k t
 ik:∀x t,kd.is x (mv x t)=true
noncomputable def strOf(v:Value):Str:=match v with|.str x _=>x|_=>⟨#[]⟩
abbrev BI(prog:Program)(w:World):Kd prog w Str:=⟨PySem.strKind prog w,.str,strOf,λ_ _=>rfl,λ_ _=>rfl,λ_ _ h=>Value.isStrOf_shape h,λx t=>by show Value.isStrOf x (.str x t)=true;simp[Value.isStrOf]⟩
def fW{prog:Program}{w:World}{α:Type}[DecidableEq α](κ:Kd prog w α)(h:Heap)(a:Addr)(es:Array (Int×Value)):Prop:=
 ∃o ep t,h.get? a=some o/\o.ExactSet/\o.data=.set es ep t/\ElemsOf κ.kd es.toList/\(es.toList.map λe=>κ.kf e.2).Nodup/\es.size<scanBound/\t.fits es.size=true/\
  t.led= !w.params.followText "set-order"/\SR.Rs t.place
abbrev pB(prog:Program)(w:World)(h:Heap)(a:Addr)(es:Array (Int×Value)):Prop:=fW (BI prog w) h a es
def lg(w:World)(h:Heap)(a:Addr)(es:Array (Int×Value)):Prop:=
 ∃o ep t,h.get? a=some o/\o.ExactSet/\o.data=.set es ep t/\es.size<scanBound/\t.fits es.size=true/\t.led= !w.params.followText "set-order"/\SR.Rs t.place
theorem lg.keeps{w:World}{h h':Heap}{a:Addr}{es:Array (Int×Value)}(S:lg w h a es)(k:∀o,h.get? a=some o->h'.get? a=some o):lg w h' a es:=by
 obtain⟨o,ep,t,b,r⟩:=S;exact⟨o,ep,t,k o b,r⟩
theorem fW.y{prog:Program}{w:World}{α:Type}[DecidableEq α]{κ:Kd prog w α}{h:Heap}{a:Addr}{es:Array (Int×Value)}(S:fW κ h a es):lg w h a es:=by
 obtain⟨o,ep,t,d,hex,hd,_,_,e,f,b,c⟩:=S;exact⟨o,ep,t,d,hex,hd,e,f,b,c⟩
section
variable{prog:Program}{w:World}{A:Around}{E:aU}{s:Shared}
variable{α:Type}[DecidableEq α]{κ:Kd prog w α}
theorem vv{l:List (Int×Value)}(h:ElemsOf κ.kd l){e:Int×Value}(a:e∈l):∃t,e.2=κ.mv (κ.kf e.2) t:=by
 obtain⟨⟨k,b,_⟩,_⟩:=h e a;obtain⟨t,q⟩:=κ.sh _ _ b;exact⟨t,by rw[q,κ.om]⟩
theorem NY{l:List (Int×Value)}(h:ElemsOf (PySem.strKind prog w) l){e:Int×Value}(a:e∈l):∃t,e.2=.str (strOf e.2) t:=vv (κ:=BI prog w) h a
theorem GB{e:Int×Value}{x:α}(h:∃t,e.2=κ.mv (κ.kf e.2) t):κ.kd.is x e.2=decide (κ.kf e.2=x):=by
 obtain⟨t,q⟩:=h;rw[kQ,decide_eq_true_iff];constructor
 .intro z
  obtain⟨t',a⟩:=κ.sh _ _ z;rw[a,κ.om]
 .intro z
  rw[q,z];exact κ.ik _ _
theorem add{a:Addr}{es:Array (Int×Value)}{x:α}{u:Tok}{Q:Bool->Shared->Prop}(hS:fW κ s.heap a es)(M:es.size+1<scanBound)
  (h:∀h' l b,SameBut a s.heap h'->fW κ h' a l->(x∈es.toList.map (λe=>κ.kf e.2)->l=es)->(x∉es.toList.map (λe=>κ.kf e.2)->l.toList.Perm (es.toList++[(κ.kd.hash x,κ.mv x u)]))->Q b {s with heap:=h'}):
  wpAny (model prog w) A (setAddHashed a (κ.mv x u) (κ.kd.hash x)) Q E s:=by
 obtain⟨o,ep,t,V,hex,hd,p,W,hb,hf,v,X⟩:=hS
 have G:κ.kd.is x (κ.mv x u)=true:=κ.ik _ _
 have N:(κ.mv x u).scannable=true:=κ.sc _ _
 unfold setAddHashed setAddHashedIn
 refine fS (ah (qI V hd hf ?_))
 dsimp only
 rw[byScan_of N hb p]
 simp only[↓reduceIte]
 unfold setAddByScan
 refine ah ?_
 refine ah (jZ ?_)
 refine ah (wpAny_setScan_of G V hd hf p ?_)
 cases hr:List.findIdx? (λe=>κ.kd.is x e.2) es.toList with
 |some j=>
  dsimp only
  obtain⟨hj,Y,_⟩:=List.findIdx?_eq_some_iff_getElem.mp hr
  have hin:x∈es.toList.map (λe=>κ.kf e.2):=by
   rw[GB (vv p (kY hj))] at Y
   exact aM.mpr ⟨_,kY hj,gD Y⟩
  refine aD (aD ?_)
  have e:s={s with heap:=s.heap}:=by cases s;rfl
  rw[e]
  exact h s.heap es _ (SameBut.refl a s.heap) ⟨o,ep,t,V,hex,hd,p,W,hb,hf,v,X⟩ (λ_=>rfl) λz=>absurd hin z
 |none=>
  dsimp only
  have H:x∉es.toList.map (λe=>κ.kf e.2):=λz=>by
   obtain⟨e,he,q⟩:=aM.mp z
   have:=List.findIdx?_eq_none_iff.mp hr e he
   rw[GB (vv p he),eL q] at this
   exact Bool.noConfusion this
  have Qy:∀(b:Bool) {f:Shared} {F:Unit->Shared->Prop},F () f->wpAny (model prog w) A (match b with|true=>rule "set.scan.the-table-gave-way"|false=>pure ()) F E f:=
   λb f F m=>by cases b<;>first|exact aD m|exact jZ m
  have d:=layNew_perm t es (κ.kd.hash x) (κ.mv x u)
  have i:=layNew_fits t es (κ.kd.hash x) (κ.mv x u)
  have B:=SR.Sd X es (κ.kd.hash x) (κ.mv x u)
  have C:=Sa t es (κ.kd.hash x) (κ.mv x u)
  have Z:=Sb t es (κ.kd.hash x) (κ.mv x u)
  generalize hL:layNew t es (κ.kd.hash x) (κ.mv x u)=L at d i C Z B ⊢
  obtain⟨c,t1,r,Zu⟩:=L
  dsimp only at d i C Z B ⊢
  rw[Array.toList_push] at d
  have I:ElemsOf κ.kd c.toList:=(p.push G N).perm d
  have QI:((es.toList++[(κ.kd.hash x,κ.mv x u)]).map λe=>κ.kf e.2).Nodup:=by
   rw[dP]
   refine oM.mpr ⟨W,θ,λy hy z hz=> ?_⟩
   have hz':z=x:=by simpa[κ.om] using hz
   rw[hz']
   rintro rfl
   exact H hy
  have J:(c.toList.map λe=>κ.kf e.2).Nodup:=(d.map _).nodup_iff.mpr QI
  have hsz1:c.size=es.size+1:=by rw[<-gn,d.length_eq,cM,gn];rfl
  have D:c.size<scanBound:=by rw[hsz1];exact M
  refine ah (Qy _ ?_)
  have fin:∀{g:Bool->Sem Unit} {R:Option Bool->Shared->Prop},(∀(b:Bool) (f:Shared) (F:Unit->Shared->Prop),F () f->wpAny (model prog w) A (g b) F E f)->(∀h',Q true {s with heap:=h'}->R (some true) {s with heap:=h'})->
    ∀k:SetTable,k.fits c.size=true->k.led=t.led->SR.Rs k.place->
    wpAny (model prog w) A (do
     storeSet a c k
     if (!r&&k.tooFull)=true then do
       g (relayAll k c (SetTable.grown c.size)).2.2
       storeSet a (relayAll k c (SetTable.grown c.size)).1 (relayAll k c (SetTable.grown c.size)).2.1
       pure (some true)
      else pure (some true)) R E s:=λ {g R} hg hR k hf2 hl2 hr2=>by
   have go:∀h' l,SameBut a s.heap h'->fW κ h' a l->l.toList.Perm c.toList->R (some true) {s with heap:=h'}:=λh' l q1 q2 q3=>hR h' (h h' l true q1 q2 (λz=>absurd z H) λ_=>q3.trans d)
   refine ah (wpAny_storeSet_of V hd ?_ (yJ D))
   have O:(s.heap.update a (Obj.putSet c k)).get? a=some {o with data:= .set c (ep+1) k}:=by
    have:=j_ (Obj.putSet c k) V (by rw[putSet_of c k hd];rfl)
    rw[putSet_of c k hd] at this;exact this
   have K:=SameBut.update s.heap a (Obj.putSet c k)
   split
   .have P:=relayAll_perm k c (SetTable.grown c.size)
    have S:=relayAll_fits k c (SetTable.grown c.size)
    have T:=SR.VY k c (SetTable.grown c.size)
    have U:=VX k c (SetTable.grown c.size)
    generalize ZE:relayAll k c (SetTable.grown c.size)=Rl at P S U T ⊢
    obtain⟨n,t3,Zv⟩:=Rl
    dsimp only at P S U T ⊢
    have hsz:n.size=c.size:=by rw[<-gn,P.length_eq,gn]
    have hb2:n.size<scanBound:=by rw[hsz];exact D
    refine ah (hg _ _ _ ?_)
    refine ah (wpAny_storeSet_of O rfl ?_ (yJ hb2))
    have Qx:((s.heap.update a (Obj.putSet c k)).update a (Obj.putSet n t3)).get? a=some {o with data:= .set n (ep+1+1) t3}:=by
     have:=j_ (Obj.putSet n t3) O (by rw[putSet_of (ep:=ep+1) (t:=k) n t3 rfl];rfl)
     rw[putSet_of (ep:=ep+1) (t:=k) n t3 rfl] at this;exact this
    refine aD (go _ n (K.trans (SameBut.update _ a _)) ⟨_,_,_,Qx,hex,rfl,I.perm P,(P.map _).nodup_iff.mpr J,hb2,S,by rw[U,hl2];exact v,T⟩ P)
   .exact aD (go _ c K ⟨_,_,_,O,hex,rfl,I,J,D,hf2,by rw[hl2];exact v,hr2⟩ .rfl)
  split
  .refine ah ?_
   rw[hashByValue_scannable 8 N]
   refine aD ?_
   cases plainKind (κ.mv x u) with
   |false=>
    simp only[jG,gk]
    refine fin ?_ ?_ {t1 with plain:=false} (SetTable.fits_plain_off i) C B
    .intro b f F m;cases b<;>first|exact aD m|exact jZ m
    .exact λh' m=>aD m
   |true=>
    simp only[lR]
    refine fin ?_ ?_ t1 i C B
    .intro b f F m;cases b<;>first|exact aD m|exact jZ m
    .exact λh' m=>aD m
  .rename_i P
   refine ah (aD ?_)
   simp only[↓reduceIte]
   refine fin ?_ ?_ t1 i C B
   .intro b f F m;cases b<;>first|exact aD m|exact jZ m
   .exact λh' m=>aD m
end
abbrev names(es:Array (Int×Value)):List Str:=es.toList.map λe=>strOf e.2
abbrev mV{prog:Program}{w:World}{α:Type}[DecidableEq α](κ:Kd prog w α)(es:Array (Int×Value)):List α:=es.toList.map λe=>κ.kf e.2
theorem fW.keeps{prog:Program}{w:World}{α:Type}[DecidableEq α]{κ:Kd prog w α}{h h':Heap}{a:Addr}{es:Array (Int×Value)}(S:fW κ h a es)(k:∀o,h.get? a=some o->h'.get? a=some o):fW κ h' a es:=by
 obtain⟨o,ep,t,b,r⟩:=S;exact⟨o,ep,t,k o b,r⟩
section
variable{prog:Program}{w:World}{A:Around}{R:Result->Shared->Prop}{I:Addr}{fp wr:List Addr}{G:Array GenState->Array GenState->Prop}{n:Nat}{P:Nat->Value->Prop}{St:Nat->Shared->Prop}{α:Type}[DecidableEq α]{κ:Kd prog w α}
theorem loop(W:WalksS prog w A.in1 I fp wr G n P St)(S:Addr)(q:S∉fp)(val:Nat->α)(r:∀i v,P i v->∃t,v=κ.mv (val i) t)(m:n+1<scanBound):
  ∀(k i:Nat) (s:Shared) (es:Array (Int×Value)),n - i=k->i<=n->St i s->fW κ s.heap S es->es.size<=i->(∀x,x∈mV κ es↔∃j,j<i/\val j=x)->
   (∀s' c,Moved (S::wr) G s s'->fW κ s'.heap S c->c.size<=n->(∀x,x∈mV κ c↔∃j,j<n/\val j=x)->R (.ok (.ret .none)) s')->
   codeAny (model prog w) A (.builtin "set.update.loop" ⟨[.ref S,.ref I],[]⟩) R s:=by
 have u:S∉wr:=λh=>q (W.sub _ h);have f:∀b∈wr,b∈S::wr:=λb m=>bq _ m;intro k;induction k with
 |zero=>
  intro i s es hk hi g M hsz d N;have O:i=n:=ω
  subst O;refine iL F.entry_set_update_loop ?_;rw[jF Cj _];show wpAny _ A.in1 (pyNext (.ref I)>>=_) _ _ s;refine ah (W.done s _ _ g λs' B=>?_);show wpAny _ A.in1 (ret Value.none) _ _ s';exact aD (N s' es (B.mono f) (M.keeps λo Q=>B.heap S _ u Q) hsz d)
 |succ k ih=>
  intro i s es hk hi g M hsz d N;have C:i<n:=ω
  refine iL F.entry_set_update_loop ?_;rw[jF Cj _];show wpAny _ A.in1 (pyNext (.ref I)>>=_) _ _ s;refine ah (W.item i s _ _ C g λv s' hP D B=>?_);obtain⟨t,rfl⟩:=r i v hP;have T:fW κ s'.heap S es:=M.keeps λo Q=>B.heap S _ u Q;show wpAny _ A.in1 (holding [κ.mv (val i) t] (setAdd S (κ.mv (val i) t))>>=_) _ _ s';refine ah (fS ?_);unfold setAdd;refine fS ?_;refine ah (κ.kd.pyHash (k:=val i) (κ.ik _ _) ?_);refine add (s:={s' with toks:=s'.toks+1}) T ω λh' c b E U Z q2=>?_;have H:c.size<=i+1:=by
   by_cases p:val i∈es.toList.map (λe=>κ.kf e.2)
   .rw[Z p];omega
   .rw[<-gn,(q2 p).length_eq,cM,gn]
    simp only[gm,oJ];omega
  have l:∀x,x∈mV κ c↔∃j,j<i+1/\val j=x:=λx=>by
   have e1:x∈mV κ c↔x∈mV κ es\/x=val i:=by
    by_cases p:val i∈es.toList.map (λe=>κ.kf e.2)
    .rw[Z p]
     exact⟨.inl,λz=>z.elim id λe=>e▸p⟩
    .have hp:=((q2 p).map λe=>κ.kf e.2).mem_iff (a:=x)
     rw[dP,bX] at hp;refine hp.trans ⟨λz=>z.imp id λy=>by simpa[κ.om] using y,λz=>z.imp id λy=>by simpa[κ.om] using y⟩
   rw[e1,d x];constructor
   .rintro (⟨j,hj,e⟩|rfl)
    .exact⟨j,ω,e⟩
    .exact⟨i,ω,rfl⟩
   .rintro ⟨j,hj,e⟩
    by_cases V:j=i
    .exact .inr (by rw[<-e,V])
    .exact .inl ⟨j,ω,e⟩
  refine aD ⟨jX Cj _,ih (i+1) _ c ω C (W.frame _ s' _ _ D (le_succ _) λb m o e=>?_) U H l λX J K L hz Y=>?_⟩
  .rw[E.2 b (λh:b=S=>q (by rw[<-h];exact m))];exact e
  .refine N X J (Moved.trans W.gtrans ((B.mono f).then_heap (le_succ _) λb o m e=>?_) K) L hz Y
   rw[E.2 b (λh:b=S=>m (by rw[h];exact aT))];exact e
end
section
variable{prog:Program}{w:World}{A:Around}{E:aU}{s:Shared}{α:Type}[DecidableEq α]{κ:Kd prog w α}
abbrev Sg(w:World):Bool:= !w.params.followText "set-order"
abbrev fG(w:World):Obj:={cls:=.type "set",dict:=none,data:=.set #[] 0 (.fresh 0 0 (Sg w))}
theorem code_set_new(a:Value){Q₁:aU}(h:Q₁ (.ref s.heap.objs.size) {s with heap:=s.heap.push (fG w)}):
  codeAny (model prog w) A (.call (.builtin "set.__new__") ⟨[.type "set",a],[]⟩) (wants Q₁ E) s:=by
 refine yH ?_;show wpAny _ A.in1 (do checkBuiltinCall "set.__new__" ⟨[.type "set",a],[]⟩;again (.builtin "set.__new__" ⟨[.type "set",a],[]⟩)) _ _ s;refine ah (wpAny_of_eq (PySem.F.newCall_set_1 a) (aD ⟨jX PySem.F.plain_set_new _,iL PySem.F.entry_set_new ?_⟩));rw[jF PySem.F.plain_set_new _];unfold Builtin.«set.__new__» Builtin.Frozenset.newClass;have b:=sub_set_self;obtain⟨c,g,d,e,os⟩:=s;dsimp only;wp_walk;refine wpAny_askSetting (aD ?_);dsimp only;simp only[newObj];refine ah (wpAny_alloc (aD ?_));exact aD h
theorem fW.fresh{h:Heap}{a:Addr}(b:h.get? a=some (fG w)):fW κ h a #[]:=
 ⟨_,_,_,b,⟨rfl,rfl,rfl⟩,rfl,λe c=>by simp at c,θ,δ,by rfl,rfl,Pairwise.nil⟩
theorem El{l:Addr}{items:Array Value}{val:Nat->α}{Q:aU}
  (hh:A.handled=none)(hl:s.heap.IsList l items)(hi:∀(i:Nat) (v:Value),items[i]? =some v->∃t:Tok,v=κ.mv (val i) t)(J:items.size+1<scanBound)
  (h:∀(h':Heap) (K:Nat) (es:Array (Int×Value)),fW κ h' s.heap.objs.size es->es.size<=items.size->(∀x,x∈mV κ es↔∃j,j<items.size/\val j=x)->
   (∀b o,b<s.heap.objs.size->s.heap.get? b=some o->h'.get? b=some o)->Q (.ref s.heap.objs.size) {s with heap:=h',toks:=K}):
  wpAny (model prog w) A (call (.type "set") [.ref l]) Q E s:=by
 obtain⟨c,tl,QF⟩:=gW.mro
 have M:=gW.made
 have hsub:=gW.sub
 refine wpAny_call (yH ?_)
 show wpAny _ _ (callAny (.type "set") _) _ _ _
 refine aD ⟨Code.quiet_builtin _ η,iL PySem.F.entry_type_call ?_⟩
 rw[Around.under_plain (weight_type_call_type "set" [.ref l] []) rfl]
 have h1:=gW.notType
 have h2:=gW.canCreate
 have hct:=PySem.F.typeCall_set_1 (.ref l)
 repeat (any_goals (first|assumption|wp_step))
 refine nB (code_set_new (.ref l) (E:=E) (Q₁:=λobj f=>obj= .ref s.heap.objs.size/\f={s with heap:=s.heap.push (fG w)}) ⟨rfl,rfl⟩) λr f N=> ?_
 cases r with
 |error e=>exact N
 |ok fl=>
  cases fl with
  |ret obj=>
   obtain⟨rfl,rfl⟩:=N
   have hS:(s.heap.push (fG w)).get? s.heap.objs.size=some (fG w):=cu _ rfl
   have hT:Shared.TypeIs {s with heap:=s.heap.push (fG w)} (.ref s.heap.objs.size) "set":=⟨_,hS,rfl⟩
   have hli:=gW.init.lookup
   have hbi:=gW.init.bind (.ref s.heap.objs.size)
   repeat (any_goals (first|assumption|wp_step))
   refine nB (codeAny_call_builtin (R:=wants (λr g=>r= .none/\∃h' K es,g={s with heap:=h',toks:=K}/\
     fW κ h' s.heap.objs.size es/\es.size<=items.size/\(∀x,x∈mV κ es↔∃j,j<items.size/\val j=x)/\
     (∀b o,b<s.heap.objs.size->s.heap.get? b=some o->h'.get? b=some o)) E) gW.init.plain PySem.F.entry_set_init (check_set_init_1 hT ?_)) λu g a=> ?_
   .obtain⟨ol,y,B,nl,C⟩:=hl
    obtain⟨TM,k,O,d⟩:=ol
    simp only at B C
    subst B;subst C
    have D:(s.heap.push (fG w)).get? l=some {cls:= .type "list",dict:=k,data:= .seq items nl,slots:=d}:=bu _ y
    have QO:=PySem.F.sub_list_set
    have QN:=PySem.F.sub_list_frozenset
    have hne:(Value.type "list" ==Value.type "dict")=false:=δ
    have G:(s.heap.push (fG w)).IsList l items:=⟨_,D,rfl,nl,rfl⟩
    unfold Builtin.«set.__init__» noKeywords Builtin.Frozenset.updateFrom
    generalize P:pyIter=PI
    wp_walk
    subst P
    refine qG G ?_
    refine ah (yy ?_)
    have H:l<s.heap.objs.size:=aR y
    have S:A.in1.in1.in1.handled=none:=by simp[hh]
    have I:l≠(s.heap.push (fG w)).objs.size:=by
     rw[fR];exact bB (gq H)
    have T:s.heap.objs.size∉[(s.heap.push (fG w)).objs.size,l]:=by
     rw[fR];simp only[aY,bI,fP,fQ,not_or]
     exact⟨bB (lS _),kT H⟩
    refine loop ((Walks.list S _ l I items).toS) s.heap.objs.size T val (λi v hv=>hi i v hv) J (items.size - 0) 0 _ #[] ω (bQ _)
     ⟨⟨_,cu _ rfl,rfl,rfl⟩,(G.push _)⟩ ?nU (aF _) (λx=>⟨λz=>by simp[mV] at z,λ⟨j,hj,_⟩=>absurd hj (ua _)⟩) ?hR
    case nU=>exact fW.fresh (bu _ hS)
    case hR=>
     intro s' U L m n p
     obtain⟨h',g',d',V,W⟩:=s'
     have eg:g'=s.gens:=L.gens
     have ed:d'=s.drawn:=L.drawn
     have eo:W=s.os:=L.os
     subst eg;subst ed;subst eo
     show wpAny _ _ _ _ _ _
     refine aD ?_
     show wpAny _ _ (ret Value.none) _ _ _
     refine aD ⟨rfl,h',V,U,rfl,m,n,p,λb o J e=> ?_⟩
     have X:b≠s.heap.objs.size:=bB J
     have Y:b≠(s.heap.push (fG w)).objs.size:=by
      rw[fR];exact bB (gq J)
     exact L.heap b o (by simp only[aY,bI,fP,fQ,not_or];exact⟨X,Y⟩) (bu _ (bu _ e))
   .cases u with
    |error e=>exact a
    |ok q=>
     cases q with
     |ret r=>
      obtain⟨rfl,h',K,es,rfl,m,n,p,Z⟩:=a
      repeat (any_goals (first|assumption|wp_step))
      exact h _ _ es m n p Z
     |_=>exact a.elim
  |_=>exact N.elim
end
theorem J9:Slot "set" "__iter__" "set.__iter__":=
 .of (owner:="set") (n:="__iter__") (by rw[oQ,oZ];kernel_rfl) η η η
  (by first|exact .inl η|exact .inr η) (by rw[isSubtype_type];kernel_rfl)
theorem slot_next:Slot "set_iterator" "__next__" "set_iterator.__next__":=
 .of (owner:="set_iterator") (n:="__next__") (by rw[oQ,oZ];kernel_rfl) η η η
  (by first|exact .inl η|exact .inr η) (by rw[isSubtype_type];kernel_rfl)
theorem J_:Slot "set_iterator" "__iter__" "set_iterator.__iter__":=
 .of (owner:="set_iterator") (n:="__iter__") (by rw[oQ,oZ];kernel_rfl) η η η
  (by first|exact .inl η|exact .inr η) (by rw[isSubtype_type];kernel_rfl)
theorem N3:entryFor table "set.__iter__"=some Builtin.«frozenset.__iter__»:=
 entryFor_alias (id':="frozenset.__iter__") (by kernel_rfl) (by first|rfl|decide+kernel) η (by kernel_rfl)
theorem entry_next:entryFor table "set_iterator.__next__"=some Builtin.«set_iterator.__next__»:=entryFor_of_fast (by kernel_rfl)
theorem LS(a:Value):argsOk "set.__iter__" ⟨[a],[]⟩:=by unfold argsOk;kernel_rfl
theorem args_next(a:Value):argsOk "set_iterator.__next__" ⟨[a],[]⟩:=by unfold argsOk;kernel_rfl
theorem Za{M:Model}{A:Around}{E:aU}{s:Shared}{src:Source}{n:Nat}{Q:Nat->Shared->Prop}(a:n≠0)(h:∀i d,i<n->Q i {s with drawn:=d}):wpAny M A (choose src n) Q E s:=λb p _=>by
 unfold choose;rw[Sem.wp_choose];exact⟨a,h _ _ (Nat.mod_lt _ (Nat.pos_of_ne_zero a))⟩
theorem Bb{α:Type}:∀(xs:List α) (i:Nat) (x:α),xs[i]?=some x->xs.Perm (x::xs.eraseIdx i)
 |[],i,x,h=>by simp at h
 |y::r,0,x,h=>by
  simp at h;subst h;simp
 |y::r,i+1,x,h=>by
  simp only[Cq] at h;have:=Bb r i x h;simp only[List.eraseIdx_cons_succ];exact(this.cons y).trans (Perm.swap x y _)
section
variable{M:Model}{A:Around}{E:aU}{s:Shared}
theorem Fg{α:Type}:∀(n:Nat) (xs:List α) (s:Shared) (Q:List α->Shared->Prop),n=xs.length->(∀ys d,ys.Perm xs->Q ys {s with drawn:=d})->wpAny M A (drawOrder n xs) Q E s
 |0,xs,s,Q,a,h=>by
  cases xs with
  |nil=>unfold drawOrder;exact aD (h [] s.drawn .nil)
  |cons x r=>simp at a
 |n+1,[],s,Q,a,h=>by simp at a
 |n+1,x::r,s,Q,a,h=>by
  unfold drawOrder;refine ah (Za θ λi d hi=>?_);have e:(x::r)[i]?=some ((x::r)[i]'hi):=a_ hi;rw[e];dsimp only;have b:=Bb (x::r) i _ e;refine ah (Fg n _ _ _ ?_ λys d' c=>aD ?_)
  .have:=b.length_eq
   simp only[gm] at this a ⊢;omega
  .exact h _ d' ((c.cons _).trans b.symm)
end
theorem HQ{α:Type}(next:Nat->Nat):∀(fuel k:Nat) (left:List α) (out:Array α),fuel=left.length->(pickOrder.go next fuel k left out).toList.Perm (out.toList++left)
 |0,k,left,out,h=>by
  cases left with
  |nil=>unfold pickOrder.go;simp
  |cons x r=>simp at h
 |fuel+1,k,[],out,h=>by simp at h
 |fuel+1,k,x::r,out,h=>by
  unfold pickOrder.go;have hi:next k%(x::r).length<(x::r).length:=Nat.mod_lt _ θ;have e:(x::r)[next k%(x::r).length]?=some ((x::r)[next k%(x::r).length]'hi):=a_ hi;rw[e];dsimp only;have a:=Bb (x::r) _ _ e;refine(HQ next fuel (k+1) _ _ ?_).trans ?_
  .have:=a.length_eq
   simp only[gm] at this h ⊢;omega
  .rw[Array.toList_push,List.append_assoc]
   exact Perm.append_left _ a.symm
theorem U5{α:Type}(next:Nat->Nat)(xs:Array α):(pickOrder next xs).toList.Perm xs.toList:=by
 unfold pickOrder;exact(HQ next xs.size 0 xs.toList #[] θ).trans θ
def gv(h:Heap)(it a:Addr)(first:Value)(i n ep:Nat):Prop:=∃o,h.get? it=some o/\o.cls=.type "set_iterator"/\o.data=.fields #[first,.int i 0,.ref a,.int n 0,.int ep 0]
def jl(h:Heap)(a:Addr)(es:Array (Int×Value))(ep:Nat)(t:SetTable):Prop:=∃o,h.get? a=some o/\o.data=.set es ep t/\t.fits es.size=true
section
variable{prog:Program}{w:World}{A:Around}{E:aU}{s:Shared}{it a:Addr}{es:Array (Int×Value)}{ep:Nat}{t:SetTable}
theorem gv.typeIs{first:Value}{i n:Nat}(h:gv s.heap it a first i n ep):s.TypeIs (.ref it) "set_iterator":=by
 obtain⟨o,h1,h2,_⟩:=h;exact⟨o,h1,h2⟩
theorem gv.put{first v:Value}{i n k:Nat}{h:Heap}(x:gv h it a first i n ep)(o:Obj)(b:h.get? it=some o):(h.update it (Obj.mapFields (·.setIfInBounds k v))).get? it=some (o.mapFields (·.setIfInBounds k v)):=by
 obtain⟨o',h1,h2,c⟩:=x;rw[h1] at b;cases b;exact j_ _ h1 (Cy (lV c _))
theorem Hs{slot:Int}{i:Nat}{x:Value}{nx:Nat}{Q:Option Value->Shared->Prop}(hi:gv s.heap it a (.int slot 0) i es.size ep)(f:jl s.heap a es ep t)
  (g:∀(A:Around) (Q:Option (Value×Nat)->Shared->Prop) (E:aU),Q (some (x,nx)) s->wpAny (model prog w) A (setNext a slot.toNat i ep) Q E s)
  (h:∀h',gv h' it a (.int nx 0) (i+1) es.size ep->SameBut it s.heap h'->Q (some x) {s with heap:=h'}):wpAny (model prog w) A (pyNext (.ref it)) Q E s:=by
 obtain⟨o,c,hc,hd⟩:=id hi
 obtain⟨os,d,e,j⟩:=f
 unfold pyNext
 refine ah (qF (oR (name:=Str.ofString "__next__") hi.typeIs slot_next (jf slot_next hi.typeIs entry_next ?_ (args_next _))))
 show wpAny _ _ (fieldsOf (.ref it)>>=_) _ _ s
 refine ah (yu c hd ?_)
 show wpAny _ _ (setEntries a>>=_) _ _ s
 refine ah (uh d e j ?_)
 simp only[ny,jG,gk]
 refine ah (g _ _ _ ?_)
 dsimp only
 refine ah (qH c hd θ ?_)
 have b:=hi.put (k:=0) (v:=rawInt nx) o c
 refine ah (qH b (lV hd _) θ (aD ⟨x,rfl,aD (h _ ?_ ((SameBut.update ..).trans (SameBut.update ..)))⟩))
 refine⟨_,j_ _ b (Cy (lV (lV hd _) _)),(Obj.cls_mapFields ..).trans ((Obj.cls_mapFields ..).trans hc),?_⟩
 rw[lV (lV hd _)]
 simp[rawInt]
end
theorem N4:entryFor table "set_iterator.__iter__"=some Builtin.«dict_keyiterator.__iter__»:=
 entryFor_alias (id':="dict_keyiterator.__iter__") (by kernel_rfl) (by first|rfl|decide+kernel) η (by kernel_rfl)
theorem LU(a:Value):argsOk "set_iterator.__iter__" ⟨[a],[]⟩:=by unfold argsOk;kernel_rfl
section
variable{prog:Program}{w:World}{A:Around}{E:aU}{s:Shared}{it a:Addr}{es:Array (Int×Value)}{ep:Nat}{t:SetTable}
theorem Aw{first:Value}{i n:Nat}{Q:aU}(hi:gv s.heap it a first i n ep)(h:Q (.ref it) s):wpAny (model prog w) A (pyIter (.ref it)) Q E s:=by
 refine wpAny_pyIter_slot hi.typeIs J_ (jf J_ hi.typeIs N4 ?_ (LU _));show wpAny _ _ (ret (.ref it)) _ _ s;exact aD ⟨_,rfl,"set_iterator",_,hi.typeIs,slot_next.lookup,h⟩
theorem Fv{slot:Int}{i:Nat}{Q:Option Value->Shared->Prop}(f:A.handled=none)(hi:gv s.heap it a (.int slot 0) i es.size ep)(g:jl s.heap a es ep t)
  (h:∀(A:Around) (Q:Option (Value×Nat)->Shared->Prop) (E:aU),Q none s->wpAny (model prog w) A (setNext a slot.toNat i ep) Q E s)
  (j:∀h',ExtBut it s.heap h'->Q none {s with heap:=h'}):wpAny (model prog w) A (pyNext (.ref it)) Q E s:=by
 obtain⟨o,e,hc,hd⟩:=id hi
 obtain⟨os,c,d,k⟩:=g
 unfold pyNext
 refine ah (qF (oR (name:=Str.ofString "__next__") hi.typeIs slot_next (jf slot_next hi.typeIs entry_next ?_ (args_next _))))
 show wpAny _ _ (fieldsOf (.ref it)>>=_) _ _ s
 refine ah (yu e hd ?_)
 show wpAny _ _ (setEntries a>>=_) _ _ s
 refine ah (uh c d k ?_)
 simp only[ny,jG,gk]
 refine ah (h _ _ _ ?_)
 dsimp only
 refine ah (qH e hd θ ?_)
 show wpAny _ _ (newExc (.type "StopIteration") []>>=_) _ _ _
 refine ah ?_
 simp only[newExc,newTuple]
 refine ah (gE ?_ (by size_fits))
 refine ah (m:=firstArgMember _ _) (wpAny_of_eq (a:=Value.none) (by first|rfl|(simp only[firstArgMember];rfl)) ?_)
 refine gE ?_ (by size_fits)
 simp only[raiseNew]
 refine ah (wpAny_handled ?_)
 rw[show A.in1.handled=none from f]
 refine ah (aD (wpAny_throw ?_))
 refine ah (yv (T:="StopIteration") (b:=true) ⟨_,cu _ rfl,rfl⟩ isSubtype_stop ?_)
 exact aD (j _ (((SameBut.update ..).extBut.push _).push _))
theorem S7{d:Addr}{ps:List Nat}{i p:Nat}{h0:Int}{x:Value}{Q:Option Value->Shared->Prop}(hi:gv s.heap it a (.ref d) i es.size ep)(k:jl s.heap a es ep t)
  (l:∃o n,s.heap.get? d=some o/\o.data= .seq ((ps.map λ(i:Nat)=>rawInt i).toArray) n)(m:ps[i]? =some p)(q:es[p]? =some (h0,x))
  (r:∀h',gv h' it a (.ref d) (i+1) es.size ep->SameBut it s.heap h'->Q (some x) {s with heap:=h'}):wpAny (model prog w) A (pyNext (.ref it)) Q E s:=by
 obtain⟨o,f,hc,hd⟩:=id hi
 obtain⟨os,b,c,j⟩:=k
 obtain⟨u,v,g,h⟩:=l
 unfold pyNext
 refine ah (qF (oR (name:=Str.ofString "__next__") hi.typeIs slot_next (jf slot_next hi.typeIs entry_next ?_ (args_next _))))
 show wpAny _ _ (fieldsOf (.ref it)>>=_) _ _ s
 refine ah (yu f hd ?_)
 show wpAny _ _ (setEntries a>>=_) _ _ s
 refine ah (uh b c j ?_)
 simp only[ny,jG,gk]
 refine ah (ug g h ?_)
 have e:((ps.map λ(i:Nat)=>rawInt i).toArray)[((i:Int)).toNat]? =some (Value.int (p:Int) 0):=by
  simp[m,rawInt]
 dsimp only
 rw[e]
 dsimp only
 refine ah ?_
 unfold setNextDrawn
 refine ah (qI b c j ?_)
 dsimp only
 simp only[qE,ny,jG,gk]
 rw[q]
 refine aD ?_
 refine ah (qH f hd θ (aD ⟨x,rfl,aD (r _ ?_ (SameBut.update ..))⟩))
 refine⟨_,j_ _ f (Cy (lV hd _)),(Obj.cls_mapFields ..).trans hc,?_⟩
 rw[lV hd]
 simp[rawInt]
theorem N1{l:Addr}{ps:List Nat}{i:Nat}{Q:Option Value->Shared->Prop}(p:A.handled=none)(hi:gv s.heap it a (.ref l) i es.size ep)(q:jl s.heap a es ep t)
  (r:∃o n,s.heap.get? l=some o/\o.data= .seq ((ps.map λ(i:Nat)=>rawInt i).toArray) n)(u:ps[i]? =none)
  (x:∀h',ExtBut it s.heap h'->Q none {s with heap:=h'}):wpAny (model prog w) A (pyNext (.ref it)) Q E s:=by
 obtain⟨o,c,hc,hd⟩:=id hi
 obtain⟨os,d,f,y⟩:=q
 obtain⟨z,B,g,h⟩:=r
 unfold pyNext
 refine ah (qF (oR (name:=Str.ofString "__next__") hi.typeIs slot_next (jf slot_next hi.typeIs entry_next ?_ (args_next _))))
 show wpAny _ _ (fieldsOf (.ref it)>>=_) _ _ s
 refine ah (yu c hd ?_)
 show wpAny _ _ (setEntries a>>=_) _ _ s
 refine ah (uh d f y ?_)
 simp only[ny,jG,gk]
 refine ah (ug g h ?_)
 have e:((ps.map λ(i:Nat)=>rawInt i).toArray)[((i:Int)).toNat]? =none:=by
  simp only[qE,List.getElem?_toArray,ck,u,Option.map_none]
 dsimp only
 rw[e]
 dsimp only
 refine ah (qH c hd θ ?_)
 have j:=hi.put (k:=0) (v:=rawInt 0) o c
 refine ah (qH j (lV hd _) θ ?_)
 show wpAny _ _ (newExc (.type "StopIteration") []>>=_) _ _ _
 refine ah ?_
 simp only[newExc,newTuple]
 refine ah (gE ?_ (by size_fits))
 refine ah (m:=firstArgMember _ _) (wpAny_of_eq (a:=Value.none) (by first|rfl|(simp only[firstArgMember];rfl)) ?_)
 refine gE ?_ (by size_fits)
 simp only[raiseNew]
 refine ah (wpAny_handled ?_)
 rw[show A.in1.handled=none from p]
 refine ah (aD (wpAny_throw ?_))
 refine ah (yv (T:="StopIteration") (b:=true) ⟨_,cu _ rfl,rfl⟩ isSubtype_stop ?_)
 exact aD (x _ ((((SameBut.update ..).trans (SameBut.update ..)).extBut.push _).push _))
end
section
variable{prog:Program}{w:World}{A:Around}{E:aU}{s:Shared}{it a:Addr}{es:Array (Int×Value)}{ep:Nat}{t:SetTable}
theorem uT{Q:Bool->Shared->Prop}(h:Q (w.params.followText "set-order") s):wpAny (model prog w) A setsByText Q E s:=by
 unfold setsByText;exact ah (wpAny_askSetting (aD h))
theorem jl.keep{h h':Heap}(x:jl h a es ep t)(k:∀o,h.get? a=some o->h'.get? a=some o):jl h' a es ep t:=by
 obtain⟨o,e,r⟩:=x;exact⟨o,k o e,r⟩
theorem gv.keep{h h':Heap}{first:Value}{i n:Nat}(x:gv h it a first i n ep)(k:∀o,h.get? it=some o->h'.get? it=some o):gv h' it a first i n ep:=by
 obtain⟨o,e,r⟩:=x;exact⟨o,k o e,r⟩
theorem nextT{slot i:Nat}{Q:Option (Value×Nat)->Shared->Prop}(d:w.params.followText "set-order"=true)(g:jl s.heap a es ep t)
  (h:Q (((pickOrder (w.params.setOrder a ep) es)[i]?).map λe=>(e.2,slot)) s):wpAny (model prog w) A (setNext a slot i ep) Q E s:=by
 obtain⟨os,b,c,f⟩:=g;unfold setNext;refine ah (qI b c f ?_);dsimp only;refine ah (uT ?_);rw[d,aA rfl];simp only[ny,jG,gk];refine ah ?_;unfold setWalk;refine ah (qI b c f ?_);dsimp only;refine ah (uT ?_);rw[d,aA rfl];exact ah (wpAny_askSetting (aD (aD h)))
theorem Y_(p:w.params.followText "set-order"=true)(r:A.handled=none)(l:a≠it):
  Walks prog w A it [it,a] [it] ((pickOrder (w.params.setOrder a ep) es).toList.map (·.2)).length (λi v=>((pickOrder (w.params.setOrder a ep) es).toList.map (·.2))[i]? =some v) (λi h=>gv h it a (.int 0 0) i es.size ep/\jl h a es ep t) where
 sub:=λb d=>by simp at d;simp[d]
 frame:=λ_ _ _ st q=>⟨st.1.keep λo e=>q it θ o e,st.2.keep λo e=>q a θ o e⟩
 item:=λi s Q E hi st f=>by
  have c:i<(pickOrder (w.params.setOrder a ep) es).size:=by simpa using hi
  have k:(pickOrder (w.params.setOrder a ep) es)[i]? =some ((pickOrder (w.params.setOrder a ep) es)[i]'c):=eT c
  refine Hs (slot:=0) (x:=((pickOrder (w.params.setOrder a ep) es)[i]'c).2) (nx:=0) st.1 st.2 (λA' u y m=>nextT p st.2 (by rw[k];exact m)) λh' g j=> ?_
  refine f _ h' s.toks ?_ ⟨g,st.2.keep λo e=>(j.2 a l).trans e⟩ λb o d e=>(j.2 b λz=>d (by simp[z])).trans e
  rw[ck,qR,k];rfl
 done:=λs Q E st f=>by
  have k:(pickOrder (w.params.setOrder a ep) es)[((pickOrder (w.params.setOrder a ep) es).toList.map (·.2)).length]? =none:=θ
  exact Fv (slot:=0) r st.1 st.2 (λA' u y m=>nextT p st.2 (by rw[k];exact m)) λh' n=>f h' s.toks λb o d e=>n b o (λz=>d (by simp[z])) e
 self:=λ_ _ _ _ st f=>Aw st.1 f
theorem Y8{g:Addr}{ps:List Nat}(D:A.handled=none)(m:a≠it)(q:g≠it)(u:ps.Perm (range es.size)):
  Walks prog w A it [it,a,g] [it] (ps.map λp=>((es[p]?).getD (0,.none)).2).length (λi v=>(ps.map λp=>((es[p]?).getD (0,.none)).2)[i]? =some v)
   (λi h=>gv h it a (.ref g) i es.size ep/\jl h a es ep t/\∃o n,h.get? g=some o/\o.data= .seq ((ps.map λ(i:Nat)=>rawInt i).toArray) n) where
 sub:=λb j=>by simp at j;simp[j]
 frame:=λ_ _ _ st x=>⟨st.1.keep λo e=>x it θ o e,st.2.1.keep λo e=>x a θ o e,by obtain⟨o,n,e,r⟩:=st.2.2;exact⟨o,n,x g θ o e,r⟩⟩
 item:=λi s Q E hi st k=>by
  have c:i<ps.length:=by simpa using hi
  have B:ps[i]? =some (ps[i]'c):=a_ c
  have d:(ps[i]'c)<es.size:=mem_range.mp (u.mem_iff.mp (kY c))
  have C:es[ps[i]'c]? =some ((es[ps[i]'c]'d).1,(es[ps[i]'c]'d).2):=eT d
  refine S7 st.1 st.2.1 st.2.2 B C λh' l f=> ?_
  refine k _ h' s.toks ?_ ⟨l,st.2.1.keep λo e=>(f.2 a m).trans e,by obtain⟨o,n,e,r⟩:=st.2.2;exact⟨o,n,(f.2 g q).trans e,r⟩⟩ λb o j e=>(f.2 b λz=>j (by simp[z])).trans e
  rw[ck,B]
  simp only[map_some,C,getD_some]
 done:=λs Q E st k=>by
  exact N1 D st.1 st.2.1 st.2.2 θ λh' y=>k h' s.toks λb o j e=>y b o (λz=>j (by simp[z])) e
 self:=λ_ _ _ _ st k=>Aw st.1 k
end
section
variable{prog:Program}{w:World}{A:Around}{E:aU}{s:Shared}{it a:Addr}{es:Array (Int×Value)}{ep:Nat}{t:SetTable}
theorem UU{ps:List Nat}(a:ps.Perm (range es.size)):(ps.map λp=>((es[p]?).getD (0,.none)).2).Perm (es.toList.map (·.2)):=by
 refine(a.map _).trans ?_;have:((range es.size).map λp=>((es[p]?).getD (0,.none)).2)=es.toList.map (·.2):=by
  apply qN;intro i;simp only[ck,qR];by_cases hi:i<es.size
  .rw[List.getElem?_range hi,eT hi]
   simp[eT hi]
  .rw[o6 (by simpa using hi),uz ω];rfl
 rw[this]
theorem Hr{slot i:Nat}{Q:Option (Value×Nat)->Shared->Prop}(d:w.params.followText "set-order"=false)(e:t.led=true)(hz:(!t.plain&&decide (es.size>1))=false)(f:jl s.heap a es ep t)
  (h:Q (match es[SetTable.below t.place slot]?,t.place[SetTable.below t.place slot]? with|some (_,x),some j=>some (x,j+1)|_,_=>none) s):wpAny (model prog w) A (setNext a slot i ep) Q E s:=by
 obtain⟨os,b,c,g⟩:=f;unfold setNext;refine ah (qI b c g ?_);dsimp only;refine ah (uT ?_);rw[d,ao δ];show wpAny _ _ (if (!t.plain&&decide (es.size>1))=true then _ else _) _ _ _;rw[hz,ao δ];show wpAny _ _ ((if (!t.led&& !es.isEmpty)=true then _ else _)>>=_) _ _ _;rw[e,ao θ];exact ah (aD (aD h))
theorem Y9(u:w.params.followText "set-order"=false)(y:t.led=true)(hz:(!t.plain&&decide (es.size>1))=false)(m:t.fits es.size=true)(c:SR.Rs t.place)(D:A.handled=none)(n:a≠it):
  Walks prog w A it [it,a] [it] (es.toList.map (·.2)).length (λi v=>(es.toList.map (·.2))[i]? =some v) (λi h=>gv h it a (.int (if i=0 then 0 else t.place.getD (i - 1) 0+1:Nat) 0) i es.size ep/\jl h a es ep t) where
 sub:=λb f=>by simp at f;simp[f]
 frame:=λ_ _ _ st B=>⟨st.1.keep λo e=>B it θ o e,st.2.keep λo e=>B a θ o e⟩
 item:=λi s Q E hi st g=>by
  have d:i<es.size:=by simpa using hi
  have F:t.place.size=es.size:=by simp only[SetTable.fits,kX,beq_iff_eq] at m;exact m.1
  have C:es[i]? =some (es[i]'d):=eT d
  have G:t.place[i]? =some (t.place.getD i 0):=SR.F2 ω
  have p:SetTable.below t.place (if i=0 then 0 else t.place.getD (i - 1) 0+1)=i:=by
   by_cases z:i=0
   .rw[aA z,SR.DZ c,z]
   .rw[ao z,SR.DY c ω];omega
  refine Hs (slot:=((if i=0 then 0 else t.place.getD (i - 1) 0+1:Nat):Int)) (x:=(es[i]'d).2) (nx:=t.place.getD i 0+1) st.1 st.2 (λA' H I q=> ?_) λh' j k=> ?_
  .refine Hr u y hz st.2 ?_
   rw[qE,p,C,G]
   exact q
  .refine g _ h' s.toks ?_ ⟨?_,st.2.keep λo e=>(k.2 a n).trans e⟩ λb o f e=>(k.2 b λz=>f (by simp[z])).trans e
   .rw[ck,qR,C];rfl
   .rw[ao ω];exact j
 done:=λs Q E st g=>by
  have F:t.place.size=es.size:=by simp only[SetTable.fits,kX,beq_iff_eq] at m;exact m.1
  have l:(es.toList.map (·.2)).length=es.size:=θ
  rw[l] at st
  refine Fv D st.1 st.2 (λA' H I q=>Hr u y hz st.2 ?_) λh' r=>g h' s.toks λb o f e=>r b o (λz=>f (by simp[z])) e
  rw[qE]
  have p:SetTable.below t.place (if es.size=0 then 0 else t.place.getD (es.size - 1) 0+1)=es.size:=by
   by_cases z:es.size=0
   .rw[aA z,SR.DZ c,z]
   .rw[ao z,SR.DY c ω];omega
  rw[p,uz ω]
  exact q
 self:=λ_ _ _ _ st g=>Aw st.1 g
theorem Rk{Q:aU}(B:lg w s.heap a es)
  (h:∀(h':Heap) (d:Drawn) (it:Addr) (zs:List Value) (fp:List Addr) (St:Nat->Heap->Prop),zs.Perm (es.toList.map (·.2))->(∀A':Around,A'.handled=none->Walks prog w A' it fp [it] zs.length (λi v=>zs[i]?=some v) St)->St 0 h'->
   it∈fp->(∀b∈fp,b=a\/s.heap.objs.size<=b)->(∀b∈fp,b<h'.objs.size)->s.heap.objs.size<=it->(∀b o,s.heap.get? b=some o->h'.get? b=some o)->Q (.ref it) {s with heap:=h',drawn:=d}):wpAny (model prog w) A (pyIter (.ref a)) Q E s:=by
 obtain⟨o,ep,t,f,hex,hd,C,g,k,x⟩:=B;have y:s.TypeIs (.ref a) "set":=⟨o,f,hex.1⟩;have alt:a<s.heap.objs.size:=aR f;refine wpAny_pyIter_slot y J9 (jf J9 y N3 ?_ (LS _));show wpAny _ _ (Builtin.Frozenset.sizeOf a>>=_) _ _ s;unfold Builtin.Frozenset.sizeOf;refine ah (ah (uh f hd g (aD ?_)));refine ah ?_;unfold setDrawn;refine ah (qI f hd g ?_);dsimp only;refine ah (uT (aD ?_));show wpAny _ _ (if (!w.params.followText "set-order"&&(!t.plain&&decide (es.size>1)))=true then _ else _) _ _ _;by_cases hc:(!w.params.followText "set-order"&&(!t.plain&&decide (es.size>1)))=true
 .rw[aA hc]
  refine ah (Fg _ _ _ _ θ λys d j=>?_);unfold newTuple;have hsz:sizeOk (.seq ((ys.map λ(i:Nat)=>rawInt i).toArray) 0):=by
   show((ys.map λ(i:Nat)=>rawInt i).toArray).size<=sizeLine;rw[cg,aK,j.length_eq,length_range];exact yJ C
  refine ah (gE ?_ hsz);have l:=λb o (e:s.heap.get? b=some o)=>bu {cls:=.type "tuple",data:=.seq ((ys.map λ(i:Nat)=>rawInt i).toArray)} e;have m:=l a o f;refine ah (wpAny_setEpoch_of m hd g ?_);refine ah (gE (aD ⟨_,rfl,"set_iterator",_,⟨_,cu _ rfl,rfl⟩,slot_next.lookup,?_⟩) (by size_fits));have ne1:a≠(s.heap.push {cls:=.type "tuple",data:=.seq ((ys.map λ(i:Nat)=>rawInt i).toArray)}).objs.size:=by rw[fR];exact bB (gq alt)
  have ne2:s.heap.objs.size≠(s.heap.push {cls:=.type "tuple",data:=.seq ((ys.map λ(i:Nat)=>rawInt i).toArray)}).objs.size:=by rw[fR];exact bB (lS _)
  refine h _ d _ (ys.map λp=>((es[p]?).getD (0,.none)).2) [_,a,s.heap.objs.size] _ (UU j) (λA' n=>Y8 (t:=t) (ep:=ep) n ne1 ne2 j) ⟨⟨_,cu _ rfl,rfl,rfl⟩,⟨o,bu _ m,hd,g⟩,⟨_,_,bu _ (cu _ rfl),rfl⟩⟩ θ (λb c=>by
   simp only[aY,fP,fQ] at c;rcases c with z|z|z
   .exact .inr (by rw[z,fR];exact le_succ _)
   .exact .inl z
   .exact .inr (by rw[z];exact aF _)) (λb c=>?_) (by rw[fR];exact le_succ _) λb o e=>bu _ (l b o e)
  rw[fR,fR];simp only[aY,fP,fQ] at c;rcases c with z|z|z
  .rw[z,fR];exact lS _
  .rw[z];exact gq (gq alt)
  .rw[z];exact gq (lS _)
 .rw[ao hc]
  refine ah (aD ?_);refine ah (wpAny_setEpoch_of f hd g ?_);refine ah (gE (aD ⟨_,rfl,"set_iterator",_,⟨_,cu _ rfl,rfl⟩,slot_next.lookup,?_⟩) (by size_fits));have ne1:a≠s.heap.objs.size:=bB alt;have q:∀b∈[s.heap.objs.size,a],b<(s.heap.push {cls:=.type "set_iterator",data:=.fields [rawInt 0,rawInt 0,.ref a,rawInt (es.size:Nat),rawInt (ep:Nat)].toArray}).objs.size:=λb c=>by
   rw[fR];simp only[aY,fP,fQ] at c;rcases c with z|z
   .rw[z];exact lS _
   .rw[z];exact gq alt
  have r:∀b∈[s.heap.objs.size,a],b=a\/s.heap.objs.size<=b:=λb c=>by
   simp only[aY,fP,fQ] at c;rcases c with z|z
   .exact .inr (by rw[z];exact aF _)
   .exact .inl z
  cases u:w.params.followText "set-order" with
  |true=>
   exact h _ s.drawn _ ((pickOrder (w.params.setOrder a ep) es).toList.map (·.2)) [_,a] _ ((U5 _ es).map _) (λA' n=>Y_ (t:=t) u n ne1) ⟨⟨_,cu _ rfl,rfl,rfl⟩,⟨o,bu _ f,hd,g⟩⟩ θ r q (aF _) λb o e=>bu _ e
  |false=>
   have hz:(!t.plain&&decide (es.size>1))=false:=by
    rw[u] at hc;simpa using hc
   have D:t.led=true:=by rw[k,u];rfl
   exact h _ s.drawn _ (es.toList.map (·.2)) [_,a] _ (.refl _) (λA' n=>Y9 (t:=t) (ep:=ep) u D hz g x n ne1) ⟨⟨_,cu _ rfl,rfl,rfl⟩,⟨o,bu _ f,hd,g⟩⟩ θ r q (aF _) λb o e=>bu _ e
end
section
variable{prog:Program}{w:World}{A:Around}{E:aU}{s:Shared}{a:Addr}{es:Array (Int×Value)}
theorem EA{Q:List Value->Shared->Prop}(J:A.handled=none)(B:lg w s.heap a es)
  (N:∀(h':Heap) (d:Drawn) (O:Nat) (zs:List Value),zs.Perm (es.toList.map (·.2))->s.heap.objs.size<=h'.objs.size->(∀b o,s.heap.get? b=some o->h'.get? b=some o)->Q zs {s with heap:=h',drawn:=d,toks:=O}):
  wpAny (model prog w) A (collect (.ref a)) Q E s:=by
 have alt:a<s.heap.objs.size:=by obtain⟨o,_,_,C,_⟩:=B;exact aR C
 have hz:es.size<scanBound:=by obtain⟨_,_,_,_,_,_,f,_⟩:=B;exact f
 unfold collect;refine ah (yy (iL PySem.F.entry_proto_collect ?_));rw[jF PySem.F.plain_proto_collect _];show wpAny _ A.in1 (newList []>>=λl=>again (.builtin "list.__iadd__" ⟨[l,.ref a],[]⟩)) _ _ s;refine ah (gE ?_);refine aD ⟨jX yi _,iL PySem.F.entry_list_iadd ?_⟩;rw[jF yi _];have i:lg w (s.heap.push {cls:=.type "list",data:=.seq ([]:List Value).toArray}) a es:=B.keeps λo e=>bu _ e;have v:∀{s':Shared},lg w s'.heap a es->s'.TypeIs (.ref a) "set":=λ {s'} x=>by obtain⟨o,_,_,C,hex,_⟩:=x;exact⟨o,C,hex.1⟩
 show wpAny _ A.in1 (Builtin.List.listExtendWith (.ref s.heap.objs.size) (.ref a) (.ref s.heap.objs.size)) _ _ _;unfold Builtin.List.listExtendWith;refine ah (nu (v (s':={s with heap:=s.heap.push {cls:=.type "list",data:=.seq ([]:List Value).toArray}}) i) ?_);have h1:Builtin.List.listSameRef (.ref s.heap.objs.size) (.ref a)=false:=by simp[Builtin.List.listSameRef,kT alt]
 have h2:(Value.type "set" ==Value.type "list")=false:=δ
 have P:(Value.type "set" ==Value.type "tuple")=false:=δ
 simp only[h1,h2,P,Bool.or_false,jG,gk];refine ah (Rk (s:={s with heap:=s.heap.push {cls:=.type "list",data:=.seq ([]:List Value).toArray}}) i λh2 d it zs fp St m W D hit G R n k2=>?_);have k:lg w h2 a es:=i.keeps λo e=>k2 _ _ e;refine ah (fS ?_);unfold Builtin.List.listLengthHint;refine ah (wpAny_specialOf (v (s':={s with heap:=h2,drawn:=d}) k) PySem.F.slot_set_len.lookup ?_);dsimp only;have g:splitId "set.__len__"=some ("set","__len__"):=η
 rw[g];dsimp only;refine ah (yv (v (s':={s with heap:=h2,drawn:=d}) k) sub_set_self ?_);simp only[Bool.not_true,jG,gk];rw[aA η];refine ah (nu (v (s':={s with heap:=h2,drawn:=d}) k) ?_);refine aD ?_;rw[aA η];refine ah (jZ ?_);have S:(s.heap.push {cls:=.type "list",data:=.seq ([]:List Value).toArray}).get? s.heap.objs.size=some {cls:=.type "list",data:=.seq ([]:List Value).toArray}:=cu _ rfl;have K:=k2 _ _ S;have p:s.heap.objs.size∉fp:=λz=>by
  rcases G _ z with e|e
  .exact absurd alt (by rw[<-e];exact gp _)
  .rw[fR] at e
   exact absurd e (Nat.not_succ_le_self _)
 have q:s.heap.objs.size<it:=by rw[fR] at n;exact n
 refine ah ?_;show wpAny _ A.in1 (updateSeq s.heap.objs.size (·.push .none)>>=λ_=>updateSeq s.heap.objs.size (·.pop)) _ _ _;refine ah (uo K rfl ?_);have L2:=j_ (Obj.mapSeq (·.push Value.none)) K rfl;refine uo L2 rfl ?_;have T:=j_ (Obj.mapSeq (·.pop)) L2 rfl;have r:∀b o,b≠s.heap.objs.size->h2.get? b=some o->((h2.update s.heap.objs.size (Obj.mapSeq (·.push Value.none))).update s.heap.objs.size (Obj.mapSeq (·.pop))).get? b=some o:=
  λb o f e=>(o5 _ _ (Ne.symm f)).trans ((o5 _ _ (Ne.symm f)).trans e)
 have U:=(W A.in1 J).toS;have V:zs.length<=sizeLine:=by rw[m.length_eq,aK,gn];exact yJ hz
 refine aD ⟨jX ud _,codeAny_extend_loopS U V _ p _ zs.length 0 _ _ _ rfl (bQ _) ((W A.in1 J).frame 0 _ _ D λb f o e=>r b o (λz=>p (z▸f)) e) T (ItemsOf.nil _) λs' c c' y t h=>?_⟩;show wpAny _ A (load s.heap.objs.size>>=_) _ _ s';refine ah (wpAny_load t ?_);have u:c.toList=zs:=by
  apply qN;intro j;rw[qR];by_cases L:j<c.size
  .have M:c[j]?=some (c[j]'L):=eT L
   rw[M];exact(h.2 j _ M).symm
  .rw[uz ω,o6 (by rw[<-h.1];omega)]
 obtain⟨h',g',d',H,I⟩:=s';have X:g'=s.gens:=y.gens;have Y:d'=d:=y.drawn;have Z:I=s.os:=y.os;subst X;subst Y;subst Z;refine aD ?_;show Q c.toList _;rw[u];have kp:∀b o,s.heap.get? b=some o->h'.get? b=some o:=λb o e=>by
  have f:b<s.heap.objs.size:=aR e;refine y.heap b o ?_ (r b o (bB f) (k2 _ _ (bu _ e)));simp only[aY,fP,fQ,not_or];exact⟨bB f,bB (lt_trans f q)⟩
 exact N h' d' H zs m (ir (aR t)) kp
theorem X4{l:List (Int×Value)}(h:ElemsOf (PySem.strKind prog w) l):∀{zs:List Value},zs.Perm (l.map (·.2))->StrsAre zs (zs.map strOf):=λ {zs} a=>by
 have:∀v∈zs,∃t,v=Value.str (strOf v) t:=λv b=>by
  obtain⟨e,c,rfl⟩:=aM.mp (a.mem_iff.mp b);exact NY h c
 clear a;induction zs with
 |nil=>exact .nil
 |cons v r d=>
  obtain⟨t,e⟩:=this v θ;have r':=d λf h'=>this f (by simp[h']);rw[cK];rw[e];exact .cons _ t r'
theorem BF{Q:aU}(x:A.handled=none)(t:pB prog w s.heap a es)(n:es.size<64)
  (h:∀(h':Heap) (d:Drawn) (k:Nat) (l:Addr) (e:Nat) (out:List Value) (ss:List Str),s.heap.objs.size<=l->h'.get? l=some (seqObj "list" out.toArray e)->StrsAre out ss->ss.Perm (names es)->sortedS ss=true->
   (∀b o,s.heap.get? b=some o->h'.get? b=some o)->Q (.ref l) {s with heap:=h',drawn:=d,toks:=k}):
  wpAny (model prog w) A (call (.builtin "sorted") [.ref a]) Q E s:=by
 have c:ElemsOf (PySem.strKind prog w) es.toList:=by obtain⟨_,_,_,_,_,_,c,_⟩:=t;exact c
 refine ye kind_sorted plain_sorted entry_sorted (args_sorted1 _) ?_;unfold Builtin.«sorted»;refine ah (m:=checkCount "sorted" 1 1 _) (aD ?_);refine ah (EA x t.y λh1 d k zs hz hsz k1=>?_);have f:StrsAre zs (zs.map strOf):=X4 c hz;have i:zs.length<64:=by rw[hz.length_eq,aK,gn];exact n
 refine ah (uf ?_);have g:(h1.push (seqObj "list" zs.toArray 0)).get? h1.objs.size=some (seqObj "list" zs.toArray 0):=cu _ rfl;show wpAny _ _ _ _ _ {s with heap:=h1.push (seqObj "list" zs.toArray 0),drawn:=d,toks:=k};refine ah (fS (jf yl ⟨_,g,rfl⟩ yI (list_sort_treeK strKind_oneLt g f.keysOf (λu v rest e=>keyKind_strs (by rw[<-e];exact f)) i λj a1 a2=>⟨_,rfl,?_⟩) (yG _)));obtain⟨p,z,B,C⟩:=sorted_out_str f a1 a2;obtain⟨e,D⟩:=ym (out:=(arrOf j).map (·.2)) g;refine aD ⟨_,rfl,h _ d k h1.objs.size e ((arrOf j).map (·.2)).toList p hsz (by rw[yp];exact D) z (B.trans ?_) C λb o q=>?_⟩
 .have:=hz.map strOf
  rw[bK] at this;exact this
 .have r:=k1 b o q
  rw[yo (bB (aR r)) (by rw[qB];exact gq (aR r))];exact bu _ r
end
end SS
namespace L2
section
variable{X:Cx}
theorem X0{xs:List Str}{its:List Value}(r:Vals (xs.map V.str) its):∀(i:Nat) (v:Value),its.toArray[i]?=some v->∃t:Tok,v=Value.str (xs.getD i ⟨#[]⟩) t:=λi v h=>by
 have h':its[i]?=some v:=by simpa using h
 have b:=r.length;have hi:i<its.length:=(bY.mp h').1;have c:(xs.map V.str)[i]?=some (V.str (xs.getD i ⟨#[]⟩)):=by
  rw[ck,fT];have:i<xs.length:=by rw[<-b,aK] at hi;exact hi
  rw[a_ this];rfl
 obtain⟨u,a,d⟩:=r.get c;rw[h'] at a;cases a;exact d
def strLt(a b:Str):Prop:=a.cps.toList<b.cps.toList
theorem Iw:∀(p:Str) (l:List Str),risingS p l=true->(p::l).Pairwise (λa b=>¬b.cps.toList<a.cps.toList)
 |p,[],_=>List.pairwise_singleton _ _
 |p,x::r,h=>by
  simp only[risingS,kX,Bool.not_eq_true',ltCps_eq,decide_eq_false_iff_not] at h;have c:=Iw x r h.2;refine gU.mpr ⟨λy d=>?_,c⟩;rcases aY.mp d with e|e
  .rw[e];exact h.1
  .have:=(gU.mp c).1 y e
   exact λz=>(not_lt.mp this)|>λq=>absurd z (not_lt.mpr (List.le_trans (not_lt.mp h.1) q))
theorem Ka{l:List Str}(h:sortedS l=true):l.Pairwise (λa b=>¬b.cps.toList<a.cps.toList):=by
 cases l with
 |nil=>exact .nil
 |cons x r=>exact Iw x r h
theorem Kp{l:List Str}(h:l.Pairwise (λa b=>¬b.cps.toList<a.cps.toList))(nd:l.Nodup):l.Pairwise strLt:=by
 refine(h.and nd).imp λ {a b} q=>?_;by_cases z:a.cps.toList<b.cps.toList
 .exact z
 .have e:a.cps.toList=b.cps.toList:=List.le_antisymm (not_lt.mp q.1) (not_lt.mp z)
  refine absurd ?_ q.2;obtain⟨⟨c⟩⟩:=a;obtain⟨⟨d⟩⟩:=b;have f:c=d:=e;rw[f]
def Yx(K:Frag)(ta:TA):TE:=λσ H Q=>ta σ H λvs H1=>∃(a:Addr) (xs:List Str),vs=[.ref a]/\aV K H1 a (xs.map V.str)/\xs.length<64/\
 ∀(l:Addr) (ys:List Str),H1 l=none->ys.Pairwise strLt->(∀x,x∈ys↔x∈xs)->Q (.ref l) (upd H1 l (.lst (ys.map V.str)))
theorem Ce:∀{out:List Value} {ss:List Str},StrsAre out ss->Vals (ss.map V.str) out
 |_,_,.nil=>.nil
 |_,_,.cons x t h=>.cons ⟨t,rfl⟩ (Ce h)
theorem UN{e:Expr}{ta:TA}{p1 p2 pos1 pos2:Pos}(D:X.mg "sorted"=none)(E:X.mg "set"=none)(hc:X.calm=true)(S:PA X [e] ta)(F:Gl X "sorted":=by rfl)(G:Gl X "set":=by rfl)
  (T:starEach [e] X.env=[(false,eval e X.env)]:=by rfl)(hz:starEach [.Call (.Name "set" p2) [e] [] pos2] X.env=[(false,eval (.Call (.Name "set" p2) [e] [] pos2) X.env)]:=by rfl):
  PE X (.Call (.Name "sorted" p1) [.Call (.Name "set" p2) [e] [] pos2] [] pos1) (Yx X.K ta):=by
 intro pins s σ H Q I h;refine lU (jv I F D (show bootBuiltins "sorted"=some (.builtin "sorted") by with_unfolding_all rfl) ?_);refine Ci ?_ hz rfl;rw[hz];refine yf (lU (jv I G E (show bootBuiltins "set"=some (.type "set") by with_unfolding_all rfl) (ng (aJ (S pos2 pins s σ H _ I h) λus t ⟨vs,H1,k,U,W⟩=>?_) T rfl)));obtain⟨a,xs,e,Y,Z,q⟩:=W;subst e;obtain⟨u,rfl,ru⟩:=vals1 U;cases ru;obtain⟨its,O,pl,ZK⟩:=k.list Y;have hl:=O.length;have hsz:its.toArray.size=xs.length:=by rw[cg,<-hl,aK]
 refine SS.El (κ:=SS.BI _ _) (val:=λi=>xs.getD i ⟨#[]⟩) (k.ok.hd hc) pl.isList (λi v hv=>X0 O i v hv) (by rw[hsz,show scanBound=4096 from rfl];omega) λh2 tk es J P w k2=>?_;have g:es.size<64:=ω
 have f:∀b o,t.heap.get? b=some o->h2.get? b=some o:=λb o e=>k2 b o (aR e) e;refine yg ?_;refine SS.BF (s:={t with heap:=h2,toks:=tk}) (k.ok.hd hc) J g λR d y l ep out ss m L M c p k3=>?_;have alt:t.heap.objs.size<h2.objs.size:=by obtain⟨o,_,_,ho,_⟩:=J;exact aR ho
 have C:H1 l=none:=k.hok.fresh (cC (ir alt) m);have nd:ss.Nodup:=c.nodup_iff.mpr (by obtain⟨_,_,_,_,_,_,_,N,_⟩:=J;exact N);have r:∀x,x∈ss↔x∈xs:=λx=>by
  rw[c.mem_iff,w x,hsz];constructor
  .rintro ⟨j,A,rfl⟩
   rw[fT,a_ A];exact kY A
  .intro hx
   obtain⟨j,A,e⟩:=jc hx;exact⟨j,A,by rw[fT,a_ A];exact e⟩
 have B:ss.length=es.size:=by rw[c.length_eq,aK,gn]
 have I2:Inv X pins σ (upd H1 l (.lst (ss.map V.str))) {t with heap:=R,drawn:=d,toks:=y}:=by
  refine k.call (ch:=[]) (g':=t.gens) (d':=d) (t':=y) (h':=R) (H':=upd H1 l (.lst (ss.map V.str))) ⟨λb o q _ _ _=>k3 b o (f b o q),λb o q _ _ _=>⟨o.slots,k3 b o (f b o q)⟩,λb o q n _=>?_,λb o q _=>⟨o,k3 b o (f b o q)⟩,λb xs q=>?_,λb o u q=>?_,λb ps q=>⟨#[],?_⟩⟩ ?_ k.bare λb z=>absurd z θ
  .rw[bf (bB (cO (aR q) (cC (ir alt) m)))];exact n
  .rw[bf (dh q C)];exact q
  .rw[bf (dh q C)];exact q
  .rw[bf (dh q C),q];simp
  .exact k.hok.laid (λb u q=>k3 b u (f b u q)) (cC (ir alt) m) ⟨by rw[aK,B];exact ir (cO g δ),out,ep,Ce M,L⟩
 exact⟨.ref l,_,I2,rfl,q l ss C (Kp (Ka p) nd) r⟩
end
theorem Bf(ns:List Int):∀k,k<=ns.length->preSum (λi=>ns.getD i 0) k=(ns.take k).sum
 |0,_=>by simp[preSum]
 |k+1,h=>by
  have e:preSum (λi=>ns.getD i 0) (k+1)=preSum (λi=>ns.getD i 0) k+ns.getD k 0:=by
   first|rfl|(unfold preSum;simp[range_succ])
  rw[e,Bf ns k ω,List.take_add_one,a_ ω,List.sum_append,fT,a_ ω];simp
theorem Ku:∀(ns:List Int) (b:Int),(∀n∈ns,0<=n/\n<=b)->0<=ns.sum/\ns.sum<=b*ns.length
 |[],b,_=>by simp
 |x::r,b,h=>by
  obtain⟨h1,h2⟩:=h x θ;obtain⟨c,d⟩:=Ku r b λn a=>h n (by simp[a]);rw[List.sum_cons,gm];refine⟨ω,?_⟩;have:b*((r.length+1:Nat):Int)=b*(r.length:Int)+b:=by rw[Int.natCast_add,Int.mul_add];simp
  rw[this];omega
section
variable{X:Cx}
theorem Mj(hc:X.calm=true):eN X (.builtin "sum") (λxs H Q=>∃(p:Addr) (ns:List Int),xs=[.ref p]/\aV X.K H p (ns.map V.int)/\(∀n∈ns,0<=n/\n<=2 ^ 40)/\ns.length<=1000/\Q (.int ns.sum) H):=by
 intro pins s σ H xs G Q I r h;obtain⟨p,ns,rfl,y,o,J,q⟩:=h;obtain⟨u,rfl,l⟩:=vals1 r;cases l;obtain⟨vs,t,pl,hz⟩:=I.list y;have a:vs.length=ns.length:=by rw[<-t.length,aK]
 have c:=pl.isList;have d:p<s.heap.objs.size:=by obtain⟨_,e,_⟩:=c;exact aR e
 have small:∀k,k<=ns.length->InLong (preSum (λi=>ns.getD i 0) k):=λk m=>by
  rw[Bf ns k m];obtain⟨h1,h2⟩:=Ku (ns.take k) (2 ^ 40) λn B=>o n (qy B);have C:((ns.take k).length:Int)<=1000:=by rw[kR];omega
  have L:(2 ^ 40:Int)*((ns.take k).length:Int)<=2 ^ 40*1000:=qJ C δ;unfold InLong;first|(constructor<;>omega)|omega
 refine call_sum_walk (qG c ?_);refine⟨s.heap.objs.size,[s.heap.objs.size,p],[s.heap.objs.size],vs.toArray.size,_,_,λi=>ns.getD i 0,rfl,Walks.list (A:=X.A.in1) (I.ok.hd hc) _ p (bB d) vs.toArray,
  ⟨⟨_,cu _ rfl,rfl,rfl⟩,c.push _⟩,λb f=>?_,λi v D=>?_,λj w=>⟨?_,small (j+1) (by simp at w;omega)⟩,λh' E t' m=>?_⟩
 .rw[fR]
  simp only[aY,fP,fQ] at f;rcases f with z|z
  .rw[z];exact lS _
  .rw[z];exact gq d
 .have h':vs[i]?=some v:=by simpa using D
  have hi:i<ns.length:=by rw[<-a];exact(bY.mp h').1
  have F:(ns.map V.int)[i]?=some (V.int (ns.getD i 0)):=by
   rw[ck,fT,a_ hi];rfl
  obtain⟨u,x,l⟩:=t.get F;rw[h'] at x;cases x;exact l
 .have g:j<ns.length:=by simp at w;omega
  obtain⟨h1,h2⟩:=o (ns.getD j 0) (by rw[fT,a_ g];exact kY g);show InLong (ns.getD j 0);unfold InLong;first|(constructor<;>omega)|omega
 .have e:preSum (λi=>ns.getD i 0) vs.toArray.size=ns.sum:=by
   rw[cg,a,Bf ns _ (aF _),take_length]
  rw[e];exact⟨.int _,H,I.kept (h':=h') (t':=E) (LSm.kept_iter m),⟨_,rfl⟩,q⟩
end
section
variable{X:Cx}
theorem empty_app(x:Str):Str.empty++x=x:=by
 obtain⟨c⟩:=x;show Str.mk (#[]++c)=⟨c⟩;rw[Array.empty_append]
def Yh(x:Str)(te:TE):TE:=λσ H Q=>te σ H λv H1=>∃y,v=.str y/\x.length+y.length<=sizeLine/\Q (.str (x++y)) H1
theorem UB{e:Expr}{te:TE}{x:Str}{k:Nat}{p1 p2 pos:Pos}(c:PE X e te)(d:x.length<=sizeLine:=by decide):PE X (.JoinedStr [.Constant (.str x) k p1,.FormattedValue e (-1) none p2] pos) (Yh x te):=by
 intro pins s σ H Q I h;refine wpAny_JoinedStr ?_;show wpAny _ _ (eval (.Constant (.str x) k p1) X.env) _ _ _;refine Calls.Constant_str ⟨x,_,rfl,?_,?_⟩
 .show(Str.empty++x).length<=sizeLine
  rw[empty_app];exact d
 show wpAny _ _ (eval (.FormattedValue e (-1) none p2) X.env) _ _ _;refine wpAny_FormattedValue_plain (aJ (c pins _ σ H _ (I.tok _) h) λu j ⟨v,H1,b,f,y,g,i,q⟩=>?_);subst g;obtain⟨t,rfl⟩:=f;have a:Str.empty++x=x:=empty_app x;have hz:(x++y).length<=sizeLine:=by
  have:(x++y).length=x.length+y.length:=by show(x.cps++y.cps).size=x.cps.size+y.cps.size;exact ue
  rw[this];exact i
 refine wpAny_formatField_str ?_ ?_ ω
 .refine⟨y,t,rfl,?_,?_⟩
  .rw[a];exact hz
  .rw[a]
   exact⟨hz,.str (x++y),H1,b.tok _,⟨_,rfl⟩,q⟩
 .refine⟨y,_,rfl,?_,?_⟩
  .rw[a];exact hz
  .rw[a]
   exact⟨hz,.str (x++y),H1,(b.tok _).tok _,⟨_,rfl⟩,q⟩
end
section
variable{prog:Program}{w:World}{A:Around}{E:aU}{s:Shared}
theorem tuple_addW0(l b:Addr)(items a:Array Value)(n n2:Nat)(dd c:Option Addr)(f e:Array (Option Value))(i:items.isEmpty=true):
  Meets (Builtin.«tuple.__add__» ⟨[.ref l,.ref b],[]⟩) (λ_ R s=>s.heap.get? l=some {cls:=.type "tuple",dict:=dd,data:=.seq items n,slots:=f}/\s.heap.get? b=some {cls:=.type "tuple",dict:=c,data:=.seq a n2,slots:=e}/\R (.ok (.ret (Value.ref b))) {s with heap:=s.heap,toks:=s.toks}):=
 .of_wp λprog w A R s h=>by obtain⟨m,g,d,o,os⟩:=s;obtain⟨j,k,h⟩:=h;have f1:=AutoSeq1.idx_int;have f2:=AutoSeq1.sub_tuple_tuple;have p:=AutoSeq1.sub_list_list;have f4:=AutoSeq1.sub_tuple_list;have q:=AutoSeq1.sub_list_tuple;wp_walk using yw j,yw k;exact⟨_,rfl,h⟩
end
section
variable{X:Cx}
noncomputable def VM(K:Frag):R2:=λx y H Q=>∃a b ys,x=.ref a/\y=.ref b/\bP K H a []/\bP K H b ys/\Q (.ref b) H
theorem T3:bL X (binaryOp .Add) (VM X.K):=by
 intro pins s σ H x y v u Q I k l h;obtain⟨a,b,ys,rfl,rfl,m,o,q⟩:=h;cases k;cases l;obtain⟨its,p,p1,_⟩:=I.tuple m;obtain⟨c,t,p2,_⟩:=I.tuple o;cases p;obtain⟨⟨cls,dd,data,r⟩,i,hc,n,hd⟩:=id p1;obtain⟨⟨j,f,data2,g⟩,d,e,n2,hd2⟩:=id p2;simp only at hc hd e hd2;subst hc hd e hd2;exact concat_meets ⟨_,i,rfl⟩ ⟨_,d,rfl⟩ noFill_tuple_add seq_tuple_add slot_tuple_add entry_tuple_add (args_tuple_add_2 _ _)
  (tuple_addW0 a b #[] c.toArray n n2 dd f r g rfl) ⟨i,d,⟨.ref b,H,I,rfl,q⟩⟩
noncomputable def Ia(K:Frag):R2:=λx y H Q=>∃a b xs ys,x=.ref a/\y=.ref b/\bP K H a xs/\bP K H b ys/\xs.length+ys.length<=sizeLine/\
 (xs=[]->Q (.ref b) H)/\(xs≠[]->ys=[]->Q (.ref a) H)/\(xs≠[]->ys≠[]->∀p,H p=none->Q (.ref p) (upd H p (.tup (xs++ys))))
theorem TY:bL X (binaryOp .Add) (Ia X.K):=by
 intro pins s σ H x y v u Q I d e h;obtain⟨a,b,xs,ys,rfl,rfl,f,g,hz,i,j,k⟩:=h;by_cases c:xs=[]
 .subst c
  exact T3 pins s σ H _ _ v u Q I d e ⟨a,b,ys,rfl,rfl,f,g,i rfl⟩
 .exact TZ pins s σ H _ _ v u Q I d e ⟨a,b,xs,ys,rfl,rfl,f,g,c,hz,j c,k c⟩
end
end L2
namespace DP
theorem SK:typeLookup (.type "list") "keys"=pure none:=by rw[oQ,oZ];kernel_rfl
theorem SM:typeLookup (.type "tuple") "keys"=pure none:=by rw[oQ,oZ];kernel_rfl
section
variable{prog:Program}{w:World}{A:Around}{E:aU}{s:Shared}
theorem To{a:Addr}{xs:Array Value}{k:Nat}{Q:Option Value->Shared->Prop}(i:s.heap.get? a=some {cls:=.type "list",data:=.seq xs k})(m:A.handled=none)
  (h:∀h' j,(∀b o,s.heap.get? b=some o->h'.get? b=some o)->Q none {s with heap:=h',toks:=j}):wpAny (model prog w) A (getAttr? (.ref a) "keys") Q E s:=by
 obtain⟨n,g,d,j,os⟩:=s;have l:∀c,(⟨n,g,d,c,os⟩:Shared).TypeIs (.ref a) "list":=λ_=>⟨_,i,rfl⟩;have f1:=sub_AttributeError;have p:=Cv.lookup;have f4:=Cv.bind (.ref a);have q:=am_list_getattr_none;unfold getAttr? getAttrBy? getAttrBy;repeat (any_goals (first|assumption|exact l _|((with_reducible show wpAny _ _ (call (Value.builtin "list.__getattribute__") _ _) _ _ _);refine call_meets Cv (l _) am_entry_list_getattribute (PySem.F.args_list_getattribute_2 _ _) (meets_getattribute_miss_list a xs k #[] "keys" _ SK δ δ) ⟨i,m,λh' c e f=>?_⟩)|wp_step))
 obtain⟨t',r,t⟩:=f.there;show wpAny _ _ (getattributeRaised _ _ _ _ _ _ _) _ _ _;unfold getattributeRaised;repeat (any_goals (first|assumption|wp_step))
 exact h _ _ f.keeps
theorem Tp{a:Addr}{xs:Array Value}{k:Nat}{Q:Option Value->Shared->Prop}(i:s.heap.get? a=some {cls:=.type "tuple",data:=.seq xs k})(m:A.handled=none)
  (h:∀h' j,(∀b o,s.heap.get? b=some o->h'.get? b=some o)->Q none {s with heap:=h',toks:=j}):wpAny (model prog w) A (getAttr? (.ref a) "keys") Q E s:=by
 obtain⟨n,g,d,j,os⟩:=s;have l:∀c,(⟨n,g,d,c,os⟩:Shared).TypeIs (.ref a) "tuple":=λ_=>⟨_,i,rfl⟩;have f1:=sub_AttributeError;have p:=Cz.lookup;have f4:=Cz.bind (.ref a);have q:=am_tuple_getattr_none;unfold getAttr? getAttrBy? getAttrBy;repeat (any_goals (first|assumption|exact l _|((with_reducible show wpAny _ _ (call (Value.builtin "tuple.__getattribute__") _ _) _ _ _);refine call_meets Cz (l _) am_entry_tuple_getattribute (PySem.F.args_tuple_getattribute_2 _ _) (meets_getattribute_miss_tuple a xs k #[] "keys" _ SM δ δ) ⟨i,m,λh' c e f=>?_⟩)|wp_step))
 obtain⟨t',r,t⟩:=f.there;show wpAny _ _ (getattributeRaised _ _ _ _ _ _ _) _ _ _;unfold getattributeRaised;repeat (any_goals (first|assumption|wp_step))
 exact h _ _ f.keeps
end
theorem Fx:entryFor table "dict.update.loop"=some Builtin.«dict.update.loop»:=entryFor_of_tree (by kernel_rfl)
theorem sX:plainId "dict.update.loop"=true:=η
section
variable{prog:Program}{w:World}{A:Around}{R:Result->Shared->Prop}{I:Addr}{fp wr:List Addr}{n:Nat}{P:Nat->Value->Prop}{St:Nat->Heap->Prop}
theorem loop(W:Walks prog w A.in1 I fp wr n P St)(D:Addr)(p:D∉fp)(h₀:Heap)(key:Nat->L2.Key)(E q:Nat->Value)
  (u:∀i v,i<n->P i v->∃t,v=.ref t/\t≠D/\t∉wr/\IsTup h₀ t #[E i,q i])(x:∀i,i<n->(L2.dg prog w).is (key i) (E i)=true)(hn:n<=sizeLine):
  ∀(k i:Nat) (s:Shared) (kvs:List (L2.Key×Value)),n - i=k->i<=n->St i s.heap->s.heap.DictOf (L2.dg prog w) D kvs->kvs.length<=i->(∀b o,b≠D->b∉wr->h₀.get? b=some o->s.heap.get? b=some o)->
   (∀h' y,h'.DictOf (L2.dg prog w) D (((range n).drop i).foldl (λacc j=>stored acc (key j) (q j)) kvs)->(∀b o,b≠D->b∉wr->s.heap.get? b=some o->h'.get? b=some o)->R (.ok (.ret .none)) {s with heap:=h',toks:=y})->
   codeAny (model prog w) A (.builtin "dict.update.loop" ⟨[.ref D,.ref I,rawInt (i:Nat),.none],[]⟩) R s:=by
 have B:D∉wr:=λh=>p (W.sub _ h);intro k;induction k with
 |zero=>
  intro i s kvs Z hi g G hl H J;have K:i=n:=ω
  subst K;refine iL Fx ?_;rw[jF sX _];show wpAny _ A.in1 (pyNext (.ref I)>>=_) _ _ s;refine ah (W.done s _ _ g λh' y l=>?_);show wpAny _ A.in1 (Builtin.Dict.addKeywords D []>>=_) _ _ _;refine ah (aD (aD (J h' y ?_ λb o d a e=>l b o a e)));rw[qK θ,List.foldl_nil];obtain⟨o,es,ep,L,r⟩:=G;exact⟨o,es,ep,l D o B L,r⟩
 |succ k ih=>
  intro i s kvs Z hi g G hl H J;have c:i<n:=ω
  refine iL Fx ?_;rw[jF sX _];show wpAny _ A.in1 (pyNext (.ref I)>>=_) _ _ s;refine ah (W.item i s _ _ c g λv h1 y hP C l=>?_);obtain⟨t,rfl,tD,tw,ht⟩:=u i v c hP;obtain⟨F,M,N,nt,O⟩:=ht;have f:h1.get? t=some F:=l t F tw (H t F tD tw M);refine ah (fS ?_);refine ah (wpAny_tryCatch ?_);unfold Builtin.Dict.pairItems;refine ah (nu (T:="tuple") ⟨F,f,N⟩ ?_);rw[aA δ];refine ah (ug f O (aD ?_));show wpAny _ _ (holding [E i,q i] (dictSet D (E i) (q i))) _ _ _;have Q:h1.DictOf (L2.dg prog w) D kvs:=by
   obtain⟨o,es,ep,L,r⟩:=G;exact⟨o,es,ep,l D o B L,r⟩
  refine fS (wpAny_dictSet_pairs (s:={s with heap:=h1,toks:=y}) (x i c) Q (λh2 S m=>?_) ω);have U:St (i+1) h2:=W.frame _ _ _ C λb d o e=>(m.2 b λz=>p (z▸d)).trans e;have e1:((i:Nat):Int)+1=((i+1:Nat):Int):=ω
  refine aD ⟨jX sX _,?_⟩;show codeAny _ _ (.builtin "dict.update.loop" ⟨[.ref D,.ref I,rawInt (((i:Nat):Int)+1),.none],[]⟩) _ _;rw[e1];refine ih (i+1) _ _ ω c U S ?_ (λb o d a e=>(m.2 b d).trans (l b o a (H b o d a e))) λh' V X Y=>?_
  .have:=stored_length_le kvs (key i) (q i)
   omega
  .refine J h' V ?_ λb o d a e=>Y b o d a ((m.2 b d).trans (l b o a e))
   have e2:(range n).drop i=i::(range n).drop (i+1):=by
    rw[lY (by simpa using c)];simp
   rw[e2,gX];exact X
end
end DP
namespace L2
noncomputable def putAll(ps:List (Key×V)):List (Key×V):=ps.foldl (λacc p=>putK acc p.1 p.2) []
theorem VE(ps acc:List (Key×V)):(ps.foldl (λacc p=>putK acc p.1 p.2) acc).length<=acc.length+ps.length:=by
 induction ps generalizing acc with
 |nil=>simp
 |cons p r a=>
  rw[gX,gm];refine cC (a _) ?_;have:(putK acc p.1 p.2).length<=acc.length+1:=by
   unfold putK;split
   .rw[aK];omega
   .rw[cM];simp
  omega
theorem R1{ps:List (Key×V)}{n:Nat}{key:Nat->Key}{a:Nat->Value}(b:n=ps.length)(h:∀i p,ps[i]?=some p->key i=p.1/\RelV p.2 (a i)):KV (putAll ps) ((range n).foldl (λacc j=>stored acc (key j) (a j)) []):=by
 subst b;unfold putAll;have gen:∀(m:Nat),m<=ps.length->KV ((ps.take m).foldl (λacc p=>putK acc p.1 p.2) []) ((range m).foldl (λacc j=>stored acc (key j) (a j)) []):=λm=>by
  induction m with
  |zero=>intro _;simp;exact .nil
  |succ m c=>
   intro d;have e:ps[m]?=some (ps[m]' ω):=a_ ω;obtain⟨h1,h2⟩:=h m _ e;rw[List.take_add_one,e,range_succ,nD,nD];simp only[Option.toList_some,gX,List.foldl_nil];rw[h1];exact KV.put (c ω) _ h2
 have:=gen ps.length (aF _);rwa [take_length] at this
section
variable{X:Cx}
def Pairs(K:Frag)(H:Hp)(ts:List V)(ps:List (Key×V)):Prop:=ts.length=ps.length/\∀(i:Nat) (x:V) (p:Key×V),ts[i]?=some x->ps[i]?=some p->∃t,x=.ref t/\bP K H t [kV p.1,p.2]
theorem mD(hc:X.calm=true):eN X (.type "dict") (λxs H Q=>∃(p:Addr) (D:List V) (ps:List (Key×V)),xs=[.ref p]/\(H p=some (.lst D)\/H p=some (.tup D))/\Pairs X.K H D ps/\ps.length<=1000/\∀d,H d=none->Q (.ref d) (upd H d (.dK (putAll ps)))):=by
 intro pins s σ H xs us Q I r h;obtain⟨p,D,ps,rfl,hp,hP,hl,q⟩:=h;obtain⟨u,rfl,ru⟩:=vals1 r;cases ru;have hh:=I.ok.hd hc;obtain⟨its,hv,E⟩:∃its:List Value,Vals D its/\((∃n,s.heap.get? p=some {cls:=.type "list",data:=.seq its.toArray n})\/∃n,s.heap.get? p=some {cls:=.type "tuple",data:=.seq its.toArray n}):=by
  rcases hp with hp|hp
  .obtain⟨_,its,n,y,e⟩:=(show b9 X.prog X.w H s.heap p (.lst D) from I.hok p _ hp)
   exact⟨its,y,.inl ⟨n,e⟩⟩
  .obtain⟨its,n,y,e,_⟩:=I.YK hp
   exact⟨its,y,.inr ⟨n,e⟩⟩
 have l:its.length=ps.length:=by rw[<-hv.length];exact hP.1
 have Vb:p<s.heap.objs.size:=by rcases E with⟨_,e⟩|⟨_,e⟩<;>exact aR e
 have pair:∀i,i<ps.length->∃t k v,its[i]?=some (.ref t)/\IsTup s.heap t #[k,v]/\∃p,ps[i]?=some p/\RelV (kV p.1) k/\RelV p.2 v:=λi hi=>by
  have z:ps[i]?=some (ps[i]'hi):=a_ hi;have B:D[i]?=some (D[i]'(by rw[hP.1];exact hi)):=a_ _;obtain⟨t,ex,hq⟩:=hP.2 i _ _ B z;obtain⟨u,hu,ru⟩:=hv.get B;rw[ex] at ru;cases ru;obtain⟨its2,r2,p2,_⟩:=I.tuple hq;obtain⟨k,v,rfl,N,y⟩:=vals2 r2;exact⟨t,k,v,hu,p2,_,z,N,y⟩
 let P:Nat->Value:=λi=>match its[i]? with|some (.ref t)=>(match s.heap.get? t with|some o=>(match o.data with|.seq a _=>a.getD 0 .none|_=>.none)|none=>.none)|_=>.none
 let O:Nat->Value:=λi=>match its[i]? with|some (.ref t)=>(match s.heap.get? t with|some o=>(match o.data with|.seq a _=>a.getD 1 .none|_=>.none)|none=>.none)|_=>.none
 let key:Nat->Key:=λi=>((ps[i]?).map (·.1)).getD (.inl 0);have g:∀i,i<ps.length->∃t p,its[i]?=some (.ref t)/\IsTup s.heap t #[P i,O i]/\ps[i]?=some p/\key i=p.1/\RelV (kV p.1) (P i)/\RelV p.2 (O i):=λi hi=>by
  obtain⟨t,k,v,z,L,pp,B,N,y⟩:=pair i hi;obtain⟨o,G,hcl,n,hd⟩:=id L;have R:P i=k:=by simp only[P,z,G,hd];rfl
  have ev:O i=v:=by simp only[O,z,G,hd];rfl
  have ey:key i=pp.1:=by simp only[key,B];rfl
  rw[R,ev,ey];exact⟨t,pp,z,L,B,rfl,N,y⟩
 have hsz:ps.length<=sizeLine:=cC hl δ;refine callType_codes (Q₁:=λobj J=>obj=.ref s.heap.objs.size/\J={s with heap:=s.heap.push {cls:=.type "dict",data:=.dict #[]}}) PySem.F.kt_called_dict (PySem.F.kt_typeCall_dict_1 _) PySem.F.entry_dict_init (kt_code_dict_new _ ⟨rfl,rfl⟩) ?_;rintro obj J ⟨rfl,rfl⟩;have c:(s.heap.push {cls:=.type "dict",data:=.dict #[]}).DictOf (dg X.prog X.w) s.heap.objs.size []:=DictOf.new s.heap;refine⟨c.typeIs,PySem.F.args_dict_init_2 _ _,?_⟩;unfold Builtin.«dict.__init__»;refine ah ?_;unfold Builtin.Dict.selfAndRest;refine ah (wpAny_notOrdered_dict c.typeIs ?_);show wpAny _ _ (pure (s.heap.objs.size,[Value.ref p])) _ _ _;refine aD ?_;show wpAny _ _ (Builtin.Dict.updateFrom "dict.__init__" s.heap.objs.size (.ref p) [] .none) _ _ _;unfold Builtin.Dict.updateFrom;have k0:∀b o,s.heap.get? b=some o->(s.heap.push {cls:=.type "dict",data:=.dict #[]}).get? b=some o:=λb o e=>bu _ e;have pD:p≠s.heap.objs.size:=bB Vb;have go:∀(h1:Heap) (tk:Nat) (S:Addr) (fp:List Addr) (St:Nat->Heap->Prop),(∀b o,(s.heap.push {cls:=.type "dict",data:=.dict #[]}).get? b=some o->h1.get? b=some o)->s.heap.objs.size<S->
   Walks X.prog X.w X.A.in1.in1 S fp [S] its.length (λi v=>its.toArray[i]?=some v) St->St 0 h1->s.heap.objs.size∉fp->
   codeAny (model X.prog X.w) X.A.in1 (.builtin "dict.update.loop" ⟨[.ref s.heap.objs.size,.ref S,rawInt 0,.none],[]⟩) (wants (λr U=>r=.none/\EP X pins σ Q (.ref s.heap.objs.size) U) X.xe) {s with heap:=h1,toks:=tk}:=by
  intro h1 tk S fp St k1 hI W XR hDf;have Qe:h1.DictOf (dg X.prog X.w) s.heap.objs.size []:=by
   obtain⟨o,es,ep,G,r⟩:=c;exact⟨o,es,ep,k1 _ o G,r⟩
  refine DP.loop W s.heap.objs.size hDf s.heap key P O (λi v hi hv'=>?_) (λi hi=>?_) (by rw[l];exact hsz) its.length 0 _ [] rfl (bQ _) XR Qe (bQ _) (λb o _ _ e=>k1 b o (k0 b o e)) λh2 YH Y k2=>?_
  .obtain⟨t,pp,z,L,_⟩:=g i (by rw[<-l];exact hi)
   have e:its[i]?=some v:=by simpa using hv'
   rw[z] at e;cases e;have Z:t<s.heap.objs.size:=L.lt;exact⟨t,rfl,bB Z,by simp only[bI];exact bB (lt_trans Z hI),L⟩
  .obtain⟨t,pp,z,L,B,R,N,y⟩:=g i (by rw[<-l];exact hi)
   rw[R];exact nW N
  .have hn:H s.heap.objs.size=none:=I.hok.fresh (aF _)
   have RW:∀b o,s.heap.get? b=some o->h2.get? b=some o:=λb o e=>by
    have hb:b<s.heap.objs.size:=aR e;exact k2 b o (bB hb) (by simp only[bI];exact bB (lt_trans hb hI)) (k1 b o (k0 b o e))
   rw[List.drop_zero,l] at Y;have hkv:KV (putAll ps) ((range ps.length).foldl (λacc j=>stored acc (key j) (O j)) []):=R1 rfl λi pp e=>by
    obtain⟨t,pp',z,L,B,R,N,y⟩:=g i (bY.mp e).1;rw[e] at B;cases B;exact⟨R,y⟩
   have hns:(s.heap.objs.size==sysModules)=false:=beq_false_of_ne (kT I.big);refine⟨rfl,.ref s.heap.objs.size,_,I.laid (t':=YH) (o:=.dK (putAll ps)) RW (aF _) ⟨?_,hns,_,hkv,Y⟩,rfl,q _ hn⟩;have:=VE ps [];unfold putAll;simp only[oJ,zero_add] at this;omega
 rcases E with⟨n,e⟩|⟨n,e⟩
 .have C:=k0 _ _ e
  refine ah (nu (T:="list") ⟨_,C,rfl⟩ ?_);rw[aA δ];refine ah (DP.To (s:={s with heap:=s.heap.push {cls:=.type "dict",data:=.dict #[]}}) C hh λh1 M k1=>?_);rw[aA (show(none:Option Value).isNone=true from rfl)];refine ah (jZ ?_);have m:h1.IsList p its.toArray:=⟨_,k1 _ _ C,rfl,n,rfl⟩;have x:p<h1.objs.size:=aR (k1 _ _ C);have f:s.heap.objs.size<h1.objs.size:=by obtain⟨o,_,_,G,_⟩:=c;exact aR (k1 _ _ G)
  refine ah (qG (s:={s with heap:=h1,toks:=M}) m ?_);have W:=Walks.list (prog:=X.prog) (w:=X.w) (A:=X.A.in1.in1) hh h1.objs.size p (bB x) its.toArray;rw[cg] at W;refine aD ⟨jX DP.sX _,go _ _ _ _ _ (λb o q=>bu _ (k1 b o q)) f W ⟨⟨_,cu _ rfl,rfl,rfl⟩,m.push _⟩ ?_⟩;simp only[aY,fP,fQ,not_or];exact⟨bB f,Ne.symm pD⟩
 .have C:=k0 _ _ e
  refine ah (nu (T:="tuple") ⟨_,C,rfl⟩ ?_);rw[aA δ];refine ah (DP.Tp (s:={s with heap:=s.heap.push {cls:=.type "dict",data:=.dict #[]}}) C hh λh1 M k1=>?_);rw[aA (show(none:Option Value).isNone=true from rfl)];refine ah (jZ ?_);have m:h1.IsTuple p its.toArray:=⟨_,k1 _ _ C,rfl,n,rfl⟩;have x:p<h1.objs.size:=aR (k1 _ _ C);have f:s.heap.objs.size<h1.objs.size:=by obtain⟨o,_,_,G,_⟩:=c;exact aR (k1 _ _ G)
  refine ah (wpAny_pyIter_tuple (s:={s with heap:=h1,toks:=M}) m ?_);have W:=Walks.tuple (prog:=X.prog) (w:=X.w) (A:=X.A.in1.in1) hh h1.objs.size p (bB x) its.toArray;rw[cg] at W;refine aD ⟨jX DP.sX _,go _ _ _ _ _ (λb o q=>bu _ (k1 b o q)) f W ⟨⟨_,cu _ rfl,rfl,rfl⟩,m.push _⟩ ?_⟩;simp only[aY,fP,fQ,not_or];exact⟨bB f,Ne.symm pD⟩
end
end L2
end
namespace PySem
open Sem (wp)
namespace ZL
section
variable{prog:Program}{w:World}{A:Around}{E:aU}{s:Shared}{z TI TO i1 i2 l1 l2:Addr}{xs ys:Array Value}
theorem Mt{R:List Value->Shared->Prop}(k:A.handled=none)(D:ZipApart z TI TO i1 i2 l1 l2)(L:pF z TI TO i1 i2 l1 l2 (s.heap.objs.size+1))(O:rz z TI TO i1 i2 l1 l2 (s.heap.objs.size+1) s.heap.objs.size)(m:min xs.size ys.size<=sizeLine)
  (n:ZS z TI TO i1 i2 l1 l2 (s.heap.objs.size+1) xs ys 0 (s.heap.push {cls:= .type "list",data:= .seq #[]}))
  (h:∀h':Heap,(∀(j:Nat) x y,xs[j]? =some x->ys[j]? =some y->IsPair h' (s.heap.objs.size+1+j) x y)->s.heap.objs.size<h'.objs.size->
   (∀b o,b≠z->b≠TO->b≠i1->b≠i2->s.heap.get? b=some o->h'.get? b=some o)->R (fJ (s.heap.objs.size+1) (min xs.size ys.size)).toList {s with heap:=h'}):
  wpAny (model prog w) A (collect (.ref z)) R E s:=by
 unfold collect
 refine ah (yy (iL PySem.F.entry_proto_collect ?_))
 rw[jF PySem.F.plain_proto_collect _]
 show wpAny _ A.in1 (newList []>>=λl=>again (.builtin "list.__iadd__" ⟨[l,.ref z],[]⟩)) _ _ s
 refine ah (gE ?_)
 refine aD ⟨jX yi _,iL PySem.F.entry_list_iadd ?_⟩
 rw[jF yi _]
 have c:(s.heap.push {cls:= .type "list",data:= .seq ([]:List Value).toArray}).get? s.heap.objs.size=some {cls:= .type "list",data:= .seq #[]}:=cu _ rfl
 show wpAny _ A.in1 (Builtin.List.listExtendWith (.ref s.heap.objs.size) (.ref z) (.ref s.heap.objs.size)) _ _ _
 have key:=Oh (prog:=prog) (w:=w) (A:=A) (s:={s with heap:=s.heap.push {cls:= .type "list",data:= .seq ([]:List Value).toArray}})
  (R:=λ(q:Result) (s':Shared)=>∃(h':Heap) (c':Nat),q= .ok (.ret (.ref s.heap.objs.size))/\s'={s with heap:=h'}/\
   (∀(j:Nat) x y,xs[j]? =some x->ys[j]? =some y->IsPair h' (s.heap.objs.size+1+j) x y)/\h'.get? s.heap.objs.size=some {cls:= .type "list",dict:=none,data:= .seq (fJ (s.heap.objs.size+1) (min xs.size ys.size)) c',slots:= #[]}/\
   ∀b o,b≠z->b≠TO->b≠i1->b≠i2->s.heap.get? b=some o->h'.get? b=some o)
  k D L O m (.ref s.heap.objs.size) 0 n c
  (λh' c' a1 a2 a3=>⟨h',c',rfl,rfl,a1,a2,λb o p r t u e=>a3 b o (bB (aR e)) p r t u (bu _ e)⟩)
 refine kU key (λfin s' x=> ?_) λe s' x=> ?_
 .cases fin with
  |done f=>
   obtain⟨h',c',e,rfl,d,a,g⟩:=x
   cases e
   show wpAny _ A (load s.heap.objs.size>>=_) _ _ _
   refine ah (wpAny_load a ?_)
   exact aD (h h' d (aR a) g)
  |again c₁=>
   refine⟨x.1,nB x.2 λq i y=> ?_⟩
   obtain⟨h',c',rfl,rfl,d,a,g⟩:=y
   show wpAny _ A (load s.heap.objs.size>>=_) _ _ _
   refine ah (wpAny_load a ?_)
   exact aD (h h' d (aR a) g)
 .obtain⟨_,_,v,_⟩:=x
  cases v
theorem Ms{Q₁:aU}(g:A.handled=none)(i:s.TypeIs (.ref z) "zip")(D:ZipApart z TI TO i1 i2 l1 l2)(L:pF z TI TO i1 i2 l1 l2 (s.heap.objs.size+1))(O:rz z TI TO i1 i2 l1 l2 (s.heap.objs.size+1) s.heap.objs.size)(d:min xs.size ys.size<=sizeLine)
  (k:ZS z TI TO i1 i2 l1 l2 (s.heap.objs.size+1) xs ys 0 (s.heap.push {cls:= .type "list",data:= .seq #[]}))
  (h:∀h':Heap,(∀(j:Nat) x y,xs[j]? =some x->ys[j]? =some y->IsPair h' (s.heap.objs.size+1+j) x y)->s.heap.objs.size<h'.objs.size->
   (∀b o,b≠z->b≠TO->b≠i1->b≠i2->s.heap.get? b=some o->h'.get? b=some o)->Q₁ (.ref h'.objs.size) {s with heap:=h'.push {cls:= .type "tuple",data:= .seq (fJ (s.heap.objs.size+1) (min xs.size ys.size))}}):
  codeAny (model prog w) A (.call (.builtin "tuple.__new__") ⟨[.type "tuple",.ref z],[]⟩) (wants Q₁ E) s:=by
 refine yH ?_
 show wpAny _ A.in1 (do checkBuiltinCall "tuple.__new__" ⟨[.type "tuple",.ref z],[]⟩;again (.builtin "tuple.__new__" ⟨[.type "tuple",.ref z],[]⟩)) _ _ s
 refine ah (wpAny_of_eq (PySem.F.newCall_tuple_1 _) (aD ⟨jX PySem.F.plain_tuple_new _,iL PySem.F.entry_tuple_new ?_⟩))
 rw[jF PySem.F.plain_tuple_new _]
 have f:=sub_tuple_self
 have a:=init_tuple_lookup
 have l:=madeHere_tuple
 wp_walk using nu i,Mt (A:=A.in1) g D L O d k
 intro h' m c n
 show wpAny _ _ (Builtin.Tuple.tupleExact (fJ (s.heap.objs.size+1) (min xs.size ys.size)).toList.toArray>>=λv=>ret v) _ _ _
 unfold Builtin.Tuple.tupleExact
 refine ah (gE ?_ (by show(fJ (s.heap.objs.size+1) (min xs.size ys.size)).toList.toArray.size<=sizeLine;simp only[yp];rw[Bs];exact d))
 refine aD ?_
 have e:(fJ (s.heap.objs.size+1) (min xs.size ys.size)).toList.toArray=fJ (s.heap.objs.size+1) (min xs.size ys.size):=θ
 rw[e]
 exact h h' m c n
end
section
variable{prog:Program}{w:World}{A:Around}{E:aU}{s:Shared}
theorem YN{l1 l2:Addr}{xs ys:Array Value}{Q:aU}(u:A.handled=none)(f:s.heap.IsList l1 xs)(g:s.heap.IsList l2 ys)(v:min xs.size ys.size<=sizeLine)
  (B:∀(h':Heap) (T:Addr),(∀(j:Nat) x y,xs[j]?=some x->ys[j]?=some y->IsPair h' (s.heap.objs.size+6+j) x y/\@LT.lt Nat _ (s.heap.objs.size+6+j) T)->@LT.lt Nat _ (s.heap.objs.size+5) T->
   h'.get? T=some {cls:=.type "tuple",data:=.seq (fJ (s.heap.objs.size+6) (min xs.size ys.size))}->
   (∀b o,s.heap.get? b=some o->h'.get? b=some o)->Q (.ref T) {s with heap:=h'}):
  wpAny (model prog w) A (call (.type "zip") [.ref l1,.ref l2]) (λz c=>wpAny (model prog w) A (call (.type "tuple") [z]) Q E c) E s:=by
 have C: @LT.lt Nat _ l1 s.heap.objs.size:=by obtain⟨_,e,_⟩:=f;exact aR e
 have G: @LT.lt Nat _ l2 s.heap.objs.size:=by obtain⟨_,e,_⟩:=g;exact aR e
 refine call_zip_2 f g λa hz h i k l hsz m=>?_;have hsz: @Eq Nat a.objs.size (s.heap.objs.size+5):=hsz;have D:ZipApart (s.heap.objs.size+4) (s.heap.objs.size+2) (s.heap.objs.size+3) s.heap.objs.size (s.heap.objs.size+1) l1 l2:=by
  constructor<;>first|(show(_:Nat)<(_:Nat);omega)|(intro e;have r: @Eq Nat _ _:=e;omega)
 have L:pF (s.heap.objs.size+4) (s.heap.objs.size+2) (s.heap.objs.size+3) s.heap.objs.size (s.heap.objs.size+1) l1 l2 (a.objs.size+1):=by
  rw[hsz];constructor<;>first|(show(_:Nat)<(_:Nat);omega)|(intro e;have r: @Eq Nat _ _:=e;omega)
 have O:rz (s.heap.objs.size+4) (s.heap.objs.size+2) (s.heap.objs.size+3) s.heap.objs.size (s.heap.objs.size+1) l1 l2 (a.objs.size+1) a.objs.size:=by
  rw[hsz];constructor<;>first|(show(_:Nat)<(_:Nat);omega)|(intro e;have r: @Eq Nat _ _:=e;omega)
 have H:ZS (s.heap.objs.size+4) (s.heap.objs.size+2) (s.heap.objs.size+3) s.heap.objs.size (s.heap.objs.size+1) l1 l2 (a.objs.size+1) xs ys 0 (a.push {cls:=.type "list",data:=.seq #[]}):=
  ⟨.inl ⟨rfl,bu _ hz⟩,bu _ h,⟨_,_,bu _ i⟩,k.at λo e=>bu _ e,l.at λo e=>bu _ e,
   f.at λo e=>bu _ (m _ o e),g.at λo e=>bu _ (m _ o e),by rw[fR],λj x y I=>absurd I (ua _)⟩
 refine callType_codes (Q₁:=λobj c=>c.TypeIs obj "tuple"/\Q obj c) called_tuple (PySem.F.typeCall_tuple_1 _) PySem.F.entry_object_init
  (Ms (s:={s with heap:=a}) (xs:=xs) (ys:=ys) u ⟨_,hz,rfl⟩ D L O v H λh' J n p=>⟨⟨_,cu _ rfl,rfl⟩,?_⟩) λobj c d=>?_
 .have t:a.objs.size+1=s.heap.objs.size+6:=by rw[hsz]
  have q:=B (h'.push {cls:=.type "tuple",data:=.seq (fJ (s.heap.objs.size+6) (min xs.size ys.size))}) h'.objs.size (λj x y K M=>?_) (by rw[<-hsz];exact n) (cu _ rfl) λb o e=>?_
  .show Q (.ref h'.objs.size) {s with heap:=h'.push {cls:=.type "tuple",data:=.seq (fJ (a.objs.size+1) (min xs.size ys.size))}}
   rw[t];exact q
  .have pr:=J j x y K M
   have pr:IsPair h' (a.objs.size+1+j) x y:=pr;rw[t] at pr;exact⟨bu _ pr,aR pr⟩
  .have N: @LT.lt Nat _ b s.heap.objs.size:=aR e
   have ne:∀j:Nat,b≠s.heap.objs.size+j:=λj z=>by have P: @Eq Nat b (s.heap.objs.size+j):=z;omega
   exact bu _ (p b o (ne 4) (ne 3) (ne 0) (ne 1) (m b o e))
 .exact⟨d.1,PySem.F.args_object_init_2 obj _,object_init_meets called_tuple.init.lookup called_tuple.made δ prog w A.in1 _ c ⟨d.1,rfl,d.2⟩⟩
end
end ZL
end PySem
section
open PySem PySem.Spec PyProof.Rows
namespace L2
section
variable{X:Cx}
def YA(K:Frag)(ta:TA):TE:=λσ H Q=>ta σ H λvs H1=>∃a b xs ys,vs=[.ref a,.ref b]/\aV K H1 a xs/\aV K H1 b ys/\
 ∀(l:Addr) (H':Hp) (ps:List V),k_ H1 H'->H1 l=none->H' l=some (.tup ps)->ps.length=min xs.length ys.length->(∀(j:Nat) p,ps[j]?=some p->∃t x y,p=.ref t/\xs[j]?=some x/\ys[j]?=some y/\H' t=some (.tup [x,y]))->Q (.ref l) H'
theorem UR{a b:Expr}{ta:TA}{p1 p2 pos1 pos2:Pos}(P:Gl X "tuple")(R:X.mg "tuple"=none)(S:bootBuiltins "tuple"=some (.type "tuple"))(U:Gl X "zip")(W:X.mg "zip"=none)(Y:bootBuiltins "zip"=some (.type "zip"))(hc:X.calm=true)(ha:PA X [a,b] ta)
  (hs:starEach [a,b] X.env=[(false,eval a X.env),(false,eval b X.env)]:=by rfl)(B:starEach [b] X.env=[(false,eval b X.env)]:=by rfl)
  (hz:starEach [.Call (.Name "zip" p2) [a,b] [] pos2] X.env=[(false,eval (.Call (.Name "zip" p2) [a,b] [] pos2) X.env)]:=by rfl):
  PE X (.Call (.Name "tuple" p1) [.Call (.Name "zip" p2) [a,b] [] pos2] [] pos1) (YA X.K ta):=by
 intro pins s σ H Q I h
 refine lU (jv I P R S ?_)
 refine ng ?_ hz rfl
 rw[hz]
 refine yf (lU (jv I U W Y (ng (aJ (ha pos2 pins s σ H _ I h) λus c ⟨vs,H1,g,r1,q1⟩=> ?_) (by rw[hs,B]) (by rw[B];rfl))))
 obtain⟨pa,pb,xs,ys,e,hx,hy,q⟩:=q1
 subst e
 obtain⟨u1,u2,rfl,Z,V9⟩:=vals2 r1
 cases Z
 cases V9
 obtain⟨C,i,U_,hz1⟩:=g.list hx
 obtain⟨D,k,U',hz2⟩:=g.list hy
 have l1:=i.length
 have l2:=k.length
 refine aJ (ZL.YN (E:=X.xe) (Q:=EP X pins σ Q) (g.ok.hd hc) U_.isList U'.isList (by simp only[cg];omega) λh' T F m hS kp=> ?_) λz s2 hq=>yg hq
 have em:min C.toArray.size D.toArray.size=min xs.length ys.length:=by simp only[cg];omega
 rw[em] at hS
 have hn:∀j:Nat,H1 (c.heap.objs.size+j)=none:=λj=>g.hok.fresh (qt _ _)
 have Qs:∀j:Nat,j<min xs.length ys.length->@LT.lt Nat _ (c.heap.objs.size+6+j) T:=λj hj=>by
  have d:xs[j]? =some (xs[j]' ω):=a_ _
  have f:ys[j]? =some (ys[j]' ω):=a_ _
  obtain⟨u,hu,_⟩:=i.get d
  obtain⟨v,hv,_⟩:=k.get f
  exact(F j u v (by simpa using hu) (by simpa using hv)).2
 have Qt:H1 T=none:=g.hok.fresh (by show @LE.le Nat _ c.heap.objs.size T;have: @LT.lt Nat _ (c.heap.objs.size+5) T:=m;omega)
 have pair:∀j:Nat,j<min xs.length ys.length->∃x y u v,xs[j]? =some x/\ys[j]? =some y/\RelV x u/\RelV y v/\IsPair h' (c.heap.objs.size+6+j) u v:=λj hj=>by
  have d:xs[j]? =some (xs[j]' ω):=a_ _
  have f:ys[j]? =some (ys[j]' ω):=a_ _
  obtain⟨u,hu,ru⟩:=i.get d
  obtain⟨v,hv,n⟩:=k.get f
  exact⟨_,_,u,v,d,f,ru,n,(F j u v (by simpa using hu) (by simpa using hv)).1⟩
 let H':Hp:=λb=>if b=T then some (.tup ((range (min xs.length ys.length)).map λj=>V.ref (c.heap.objs.size+6+j))) else
  if c.heap.objs.size+6<=b/\b - (c.heap.objs.size+6)<min xs.length ys.length then some (.tup [(xs[b - (c.heap.objs.size+6)]?).getD .aG,(ys[b - (c.heap.objs.size+6)]?).getD .aG]) else H1 b
 have G:H' (T)=some (.tup ((range (min xs.length ys.length)).map λj=>V.ref (c.heap.objs.size+6+j))):=by
  show(if _ then _ else _)=_
  rw[aA rfl]
 have J:∀(j:Nat) x y,xs[j]? =some x->ys[j]? =some y->H' (c.heap.objs.size+6+j)=some (.tup [x,y]):=λj x y t A=>by
  have j1:=(bY.mp t).1
  have j2:=(bY.mp A).1
  have L:c.heap.objs.size+6+j - (c.heap.objs.size+6)=j:=Nat.add_sub_cancel_left _ _
  have M:j<min xs.length ys.length:=Nat.lt_min.mpr ⟨j1,j2⟩
  show(if _ then _ else if _ then _ else _)=_
  rw[ao (λz=>by have z': @Eq Nat (c.heap.objs.size+6+j) (T):=z;have:=Qs j M;omega),aA ⟨qt _ _,by rw[L];exact M⟩,L,t,A]
  rfl
 have hold:k_ H1 H':=λb o e=>by
  have hb: @LT.lt Nat _ b c.heap.objs.size:=g.hok.lt e
  show(if _ then _ else if _ then _ else _)=_
  rw[ao (λz=>by have z': @Eq Nat b (T):=z;have: @LT.lt Nat _ (c.heap.objs.size+5) T:=m;omega),ao (λz=>by have z': @LE.le Nat _ (c.heap.objs.size+6) b:=z.1;omega)]
  exact e
 have N:∀b o,H' b=some o->H1 b=some o\/(c.heap.objs.size<=b/\b9 X.prog X.w H' h' b o):=λb o e=>by
  by_cases hb:b=T
  .subst hb
   rw[G] at e
   cases e
   refine .inr ⟨by show @LE.le Nat _ c.heap.objs.size b;have: @LT.lt Nat _ (c.heap.objs.size+5) b:=m;omega,by rw[aK,length_range];omega,(range (min xs.length ys.length)).map λj=>Value.ref (c.heap.objs.size+6+j),?_,⟨_,hS⟩⟩
   have:∀l:List Nat,Vals (l.map λj=>V.ref (c.heap.objs.size+6+j)) (l.map λj=>Value.ref (c.heap.objs.size+6+j)):=λl=>by
    induction l with
    |nil=>exact .nil
    |cons j r ih=>exact .cons rfl ih
   exact this _
  .by_cases O:c.heap.objs.size+6<=b/\b - (c.heap.objs.size+6)<min xs.length ys.length
   .obtain⟨g1,g2⟩:=O
    have eb:b=c.heap.objs.size+6+(b - (c.heap.objs.size+6)):=(Nat.add_sub_cancel' g1).symm
    obtain⟨x,y,u,v,t,A,ru,n,pr⟩:=pair _ g2
    rw[eb,J _ x y t A] at e
    cases e
    refine .inr ⟨cC (qt _ 6) g1,by show 2<=sizeLine;decide,[u,v],.cons ru (.cons n .nil),?_⟩
    rw[eb]
    exact⟨_,pr⟩
   .left
    have e':(if b=T then some (HO.tup ((range (min xs.length ys.length)).map λj=>V.ref (c.heap.objs.size+6+j))) else
     if c.heap.objs.size+6<=b/\b - (c.heap.objs.size+6)<min xs.length ys.length then some (.tup [(xs[b - (c.heap.objs.size+6)]?).getD .aG,(ys[b - (c.heap.objs.size+6)]?).getD .aG]) else H1 b)=some o:=e
    rw[ao hb,ao O] at e'
    exact e'
 refine⟨.ref (T),H',g.many (h':=h') (t':=c.toks) kp hold N,rfl,q _ H' _ hold Qt G (by rw[aK,length_range]) λj p e=> ?_⟩
 rw[ck] at e
 cases er:(range (min xs.length ys.length))[j]? with
 |none=>rw[er] at e;cases e
 |some j'=>
  rw[er] at e
  obtain⟨hj,L⟩:=bY.mp er
  rw[List.getElem_range] at L
  subst L
  cases e
  have hj':j<min xs.length ys.length:=by simpa using hj
  obtain⟨x,y,u,v,t,A,_⟩:=pair j hj'
  exact⟨_,x,y,rfl,t,A,J j x y t A⟩
end
theorem Kr:∀{vs:List Value} {ss:List Str},vs.length=ss.length->(∀(i:Nat) v x,vs[i]?=some v->ss[i]?=some x->∃t,v=Value.str x t)->StrsAre vs ss
 |[],[],_,_=>.nil
 |v::vs,x::ss,a,h=>by
  obtain⟨t,rfl⟩:=h 0 v x rfl rfl;exact .cons x t (Kr (by simpa using a) λi b c d e=>h (i+1) b c (by simpa using d) (by simpa using e))
theorem KV.at{kvs:List (Key×V)}{vs:List (Key×Value)}(r:KV kvs vs):∀{i:Nat} {q:Key×Value},vs[i]?=some q->∃p,kvs[i]?=some p/\p.1=q.1/\RelV p.2 q.2:=by
 induction r with
 |nil=>intro i q h;simp at h
 |cons h1 h2 a=>
  intro i q h;cases i with
  |zero=>simp at h;subst h;exact⟨_,rfl,h1⟩
  |succ i=>exact a (by simpa using h)
theorem KV.len{kvs:List (Key×V)}{vs:List (Key×Value)}(r:KV kvs vs):kvs.length=vs.length:=by
 induction r with
 |nil=>rfl
 |cons h1 h2 a=>simp[a]
section
variable{X:Cx}
theorem Inv.G6{pins:aZ}{σ:St}{H H':Hp}{s:Shared}{h':Heap}{t':Nat}(I:Inv X pins σ H s)(kp:∀b o,s.heap.get? b=some o->h'.get? b=some o)(d:k_ H H')
  (a:∀b o,H' b=some o->H b=some o\/((∀u,s.heap.get? b≠some u)/\b9 X.prog X.w H' h' b o)):Inv X pins σ H' {s with heap:=h',toks:=t'}:=by
 refine I.un (h':=h') (t':=t') ⟨λb o q _ _ _=>kp b o q,λb o q _ _ _=>⟨o.slots,kp b o q⟩,λb o q n _=>?_,λb o q _=>⟨o,kp b o q⟩,λb xs q=>d _ _ q,λb o u q=>d _ _ q,λb ps q=>⟨#[],by rw[d _ _ q];simp⟩⟩ λb o q=>?_
 .cases e:H' b with
  |none=>rfl
  |some u=>
   rcases a b u e with z|⟨z,_⟩
   .rw[n] at z;cases z
   .exact absurd q (z _)
 .rcases a b o q with z|⟨_,z⟩
  .exact(I.hok b o z).stay (λc v _ r=>kp c v r) (λc r=>d _ _ r) λc xs r=>d _ _ r
  .exact z
theorem zF(hc:X.calm=true):eN X (.builtin "sorted") (λxs H Q=>∃(d:Addr) (kvs:List (Key×V)) (ns:List Str),xs=[.ref d]/\H d=some (.dK kvs)/\kvs.map (·.1)=ns.map Sum.inr/\ns.Nodup/\ns.length<64/\
  ∀(l:Addr) (ys:List Str),H l=none->ys.Pairwise strLt->(∀x,x∈ys↔x∈ns)->Q (.ref l) (upd H l (.lst (ys.map V.str)))):=by
 intro pins s σ H xs us Q I r h;obtain⟨d,kvs,ns,rfl,hd,M,G,B,q⟩:=h;obtain⟨u,rfl,Y⟩:=vals1 r;cases Y;obtain⟨hz,Z,vs,rel,dd⟩:=(show b9 X.prog X.w H s.heap d (.dK kvs) from I.hok d _ hd);obtain⟨ep,J⟩:=dd.dictAt;have C:kvs.length=ns.length:=by
  have:=cj List.length M;simpa using this
 have c:vs.length=ns.length:=by rw[<-rel.len,C]
 refine ye kind_sorted plain_sorted entry_sorted (args_sorted1 _) ?_;unfold Builtin.«sorted»;refine ah (m:=checkCount "sorted" 1 1 _) (aD ?_);refine ah (PySem.W.kdu_collect (A:=X.A.in1) (PySem.W.kdl_dict (knd:=dg X.prog X.w) (kvs:=vs) (ep:=ep) Z) (I.ok.hd hc) J (by rw[c];omega) λh1 N acc k1 a=>?_);have f:StrsAre acc.toList ns:=by
  refine Kr (by rw[gn,a.1,c]) λi v x O e2=>?_;rw[qR] at O;obtain⟨k,y,e3,P⟩:=a.2 i v O;obtain⟨p,e5,e6,_⟩:=rel.at e3;have R:(kvs.map (·.1))[i]?=some k:=by rw[ck,e5];exact cj some e6
  rw[M,ck,e2] at R;have e8:k=Sum.inr x:=(Option.some.inj R).symm;rw[e8] at P;rcases ju (show lI (Sum.inr x) v=true from P) with⟨_,_,z,_⟩|⟨x',t,z,z2⟩
  .cases z
  .cases z;exact⟨t,z2⟩
 have K:acc.toList.length<64:=by rw[gn,a.1,c];exact B
 refine ah (uf ?_);have g:(h1.push (seqObj "list" acc.toList.toArray 0)).get? h1.objs.size=some (seqObj "list" acc.toList.toArray 0):=cu _ rfl;show wpAny _ _ _ _ _ {s with heap:=h1.push (seqObj "list" acc.toList.toArray 0),toks:=N};refine ah (fS (jf yl ⟨_,g,rfl⟩ yI (list_sort_treeK strKind_oneLt g f.keysOf (λS T rest e=>keyKind_strs (by rw[<-e];exact f)) K λj a1 a2=>⟨_,rfl,?_⟩) (yG _)));obtain⟨D,q1,L,q3⟩:=sorted_out_str f a1 a2;obtain⟨e,he⟩:=ym (out:=(arrOf j).map (·.2)) g;have kp:∀b o,s.heap.get? b=some o->(sortedHeap (h1.push (seqObj "list" acc.toList.toArray 0)) h1.objs.size acc.toList ((arrOf j).map (·.2))).get? b=some o:=λb o q=>by
  have n:=k1 b o q;rw[yo (bB (aR n)) (by rw[qB];exact gq (aR n))];exact bu _ n
 have E:∀u,s.heap.get? h1.objs.size≠some u:=λu z=>gp _ (aR (k1 _ _ z));have U:H h1.objs.size=none:=by
  cases e0:H h1.objs.size with
  |none=>rfl
  |some o=>
   obtain⟨u,z⟩:=(I.hok _ _ e0).obj;exact absurd z (E u)
 refine aD ⟨_,rfl,.ref h1.objs.size,upd H h1.objs.size (.lst (D.map V.str)),?_,rfl,q _ D U (Kp (Ka q3) (L.nodup_iff.mpr G)) λx=>L.mem_iff⟩;refine I.G6 (t':=N) kp (k_.new U _) λb o F=>?_;by_cases n:b=h1.objs.size
 .subst n
  rw[fh] at F;cases F;refine .inr ⟨E,?_⟩;refine⟨by rw[aK,L.length_eq];exact ir (cO B δ),((arrOf j).map (·.2)).toList,e,Ce q1,?_⟩;rw[yp];exact he
 .rw[bf n] at F
  exact .inl F
end
end L2
end
namespace MA
theorem GO{b d:Int}(g:0<b)(hd:0<d):0<b*d/(Int.gcd b d:Int)/\b∣b*d/(Int.gcd b d:Int)/\d∣b*d/(Int.gcd b d:Int)/\b*d/(Int.gcd b d:Int)<=b*d:=by
 have i:0<(Int.gcd b d:Int):=by
  have:0<Int.gcd b d:=Int.gcd_pos_of_ne_zero_right _ ω;omega
 obtain⟨a,c⟩:=ux b d;obtain⟨d',e⟩:=uy b d;have f:b*d/(Int.gcd b d:Int)=a*d:=by
  conv=>lhs;lhs;lhs;rw[c]
  rw[qz,Int.mul_ediv_cancel_left _ ω]
 have j:b*d/(Int.gcd b d:Int)=b*d':=by
  conv=>lhs;lhs;rhs;rw[e]
  rw[nj (Int.gcd b d:Int) d',<-qz,Int.mul_ediv_cancel _ ω]
 refine⟨?_,⟨d',j⟩,⟨a,by rw[f,nj]⟩,j8 _ (dR (f_ g hd))⟩;rw[f];refine f_ ?_ hd;rcases Int.lt_or_le 0 a with h|h
 .exact h
 .have:(Int.gcd b d:Int)*a<=0:=Int.mul_nonpos_of_nonneg_of_nonpos (dR i) h
  omega
noncomputable def bot:List Rat->Int->Int
 |[],b=>b
 |x::r,b=>bot r (b*(rf x).2/(Int.gcd b (rf x).2:Int))
theorem pH:∀(xs:List Rat) (b:Int),0<b->0<bot xs b/\b∣bot xs b/\∀x∈xs,(rf x).2∣bot xs b
 |[],b,h=>⟨h,Int.dvd_refl _,θ⟩
 |x::r,b,h=>by
  obtain⟨h1,h2,c,_⟩:=GO h (cR x);obtain⟨d,a,e⟩:=pH r _ h1;refine⟨d,dvd_trans h2 a,λy hy=>?_⟩;rcases aY.mp hy with rfl|hy
  .exact dvd_trans c a
  .exact e y hy
theorem bot_le(D:Int)(c:1<=D):∀(xs:List Rat) (b:Int),0<b->(∀x∈xs,(rf x).2<=D)->bot xs b<=b*D ^ xs.length
 |[],b,_,_=>by simp[bot]
 |x::r,b,h,a=>by
  obtain⟨h1,h2,f,d⟩:=GO h (cR x);have:=bot_le D c r _ h1 λy e=>a y (bq _ e);refine eB this ?_;rw[gm,jB,nj (D ^ r.length) D,<-qz];refine Co ?_ (pow_nonneg ω);exact eB d (qJ (a x θ) (dR h))
noncomputable def gw:List Int->Int->Int
 |[],d=>d
 |n::r,d=>gw r (Int.gcd d n:Int)
theorem Ad:∀(ns:List Int) (d:Int),0<=d->0<=gw ns d/\gw ns d∣d/\(∀n∈ns,gw ns d∣n)/\∀k,k∣d->(∀n∈ns,k∣n)->k∣gw ns d
 |[],d,h=>⟨h,Int.dvd_refl _,θ,λk a _=>a⟩
 |n::r,d,h=>by
  obtain⟨e,b,f,g⟩:=Ad r (Int.gcd d n:Int) ω;refine⟨e,dvd_trans b (ux d n),λm hm=>?_,λk a c=>g k (Int.dvd_coe_gcd a (c n θ)) λm hm=>c m (bq _ hm)⟩;rcases aY.mp hm with rfl|hm
  .exact dvd_trans b (uy d m)
  .exact f m hm
theorem F0{ns:List Int}{d:Int}(h:0<=d){n:Int}(a:n∈ns)(b:0<n):0<gw ns d/\gw ns d<=n:=by
 obtain⟨f,g,c,i⟩:=Ad ns d h;have hd:=c n a;have hle:=le_of_dvd b hd;refine⟨?_,hle⟩;rcases Int.lt_or_le 0 (gw ns d) with z|z
 .exact z
 .have e:gw ns d=0:=ω
  rw[e] at hd;have:=Int.zero_dvd.mp hd;omega
noncomputable def ups(xs:List Rat):List Int:=xs.map λx=>(rf x).1*(bot xs 1/(rf x).2)
noncomputable def lw(xs:List Rat):List Int:=(ups xs).map (·/gw (ups xs) 0)
theorem B_{xs:List Rat}{x:Rat}(a:x∈xs)(b:0<x):0<(rf x).1*(bot xs 1/(rf x).2):=by
 obtain⟨h1,_,c⟩:=pH xs 1 δ;refine f_ (d8 b) ?_;exact Int.ediv_pos_of_pos_of_dvd h1 (dR (cR x)) (c x a)
theorem Sx(xs:List Rat):(lw xs).length=xs.length:=by simp[lw,ups]
theorem Sy{xs:List Rat}(d:∀x∈xs,0<x):∀n∈lw xs,1<=n:=by
 intro n e;obtain⟨u,b,rfl⟩:=aM.mp e;obtain⟨x,c,rfl⟩:=aM.mp b;have a:=B_ c (d x c);obtain⟨f,gl⟩:=F0 (Int.le_refl 0) b a;have:=(Ck f).mpr (by rw[one_mul];exact gl:1*gw (ups xs) 0<=_);exact this
end MA
section
open PySem PySem.Spec PyProof.Rows
namespace DP
open L2
inductive D where
 |aG|bl (b:Bool)|int (i:Int)|str (x:Str)|tup (xs:List D)|ref (r:Nat)|fl (xs:List Int)|exc (c:Str)
inductive C where
 |lst (xs:List D)|dct (kvs:List (Key×D))|bw (o:Obj) (kvs:List (Key×D))|ins (cl:Str) (fs:List (Str×D))
abbrev Ar:=List C
abbrev Io:=Nat->Addr
section
variable(mg:aB)
mutual
noncomputable def RV(ι:Io)(n:Nat)(H:Hp):D->V->Prop
 |.aG,v=>v=.aG
 |.bl b,v=>v=.bl b
 |.int i,v=>v=.int i
 |.str x,v=>v=.str x
 |.tup ds,v=>∃a xs,v=.ref a/\H a=some (.tup xs)/\au ι n H ds xs
 |.ref r,v=>r<n/\v=.ref (ι r)
 |.fl ns,v=>∃a o,v=.ref a/\H a=some (.bT o (.lst (ns.map V.int)))
 |.exc c,v=>∃a C,v=.ref a/\mg c=some (.ref C)/\H a=some (Od a C)
noncomputable def au(ι:Io)(n:Nat)(H:Hp):List D->List V->Prop
 |[],xs=>xs=[]
 |d::ds,xs=>∃x r,xs=x::r/\RV ι n H d x/\au ι n H ds r
end
noncomputable def RK(ι:Io)(n:Nat)(H:Hp):List (Key×D)->List (Key×V)->Prop
 |[],xs=>xs=[]
 |p::ds,xs=>∃x r,xs=(p.1,x)::r/\RV mg ι n H p.2 x/\RK ι n H ds r
noncomputable def RF(ι:Io)(n:Nat)(H:Hp):List (Str×D)->List (Str×V)->Prop
 |[],xs=>xs=[]
 |p::ds,xs=>∃x r,xs=(p.1,x)::r/\RV mg ι n H p.2 x/\RF ι n H ds r
noncomputable def CO(ι:Io)(n:Nat)(H:Hp)(a:Addr):C->Prop
 |.lst ds=>∃xs,H a=some (.lst xs)/\au mg ι n H ds xs
 |.dct kvs=>∃xs,H a=some (.dK xs)/\RK mg ι n H kvs xs
 |.bw o kvs=>∃xs,H a=some (.bT o (.dK xs))/\RK mg ι n H kvs xs
 |.ins cl fs=>∃Cc dx xs,mg cl=some (.ref Cc)/\H a=some (.ins Cc dx xs)/\RF mg ι n H fs xs
structure RA(ι:Io)(H:Hp)(A:Ar):Prop where
 iC:∀r c,A[r]? =some c->CO mg ι A.length H (ι r) c
 inj:∀r q,r<A.length->q<A.length->ι r=ι q->r=q
end
noncomputable def jx:HO->Bool
 |.lst _|.dK _|.bT _ (.dK _)|.ins _ _ _=>true
 |_=>false
structure Ext(A:Ar)(ι:Io)(H:Hp)(A':Ar)(ι':Io)(H':Hp):Prop where
 len:A.length<=A'.length
 ag:∀r,r<A.length->ι' r=ι r
 im:∀r,r<A.length->∃o,H (ι r)=some o/\jx o=true
 mo:∀b o,H b=some o->(∀r,r<A.length->ι r≠b)->H' b=some o
 nw:∀r,A.length<=r->r<A'.length->H (ι' r)=none
 al:∀b o,H b=some o->∃o',H' b=some o'
theorem Ext.fix{A A':Ar}{ι ι':Io}{H H':Hp}(e:Ext A ι H A' ι' H'){b:Addr}{o:HO}(a:jx o=false)(h:H b=some o):H' b=some o:=e.mo b o h λr c z=>by
 obtain⟨u,h1,h2⟩:=e.im r c;rw[z,h] at h1;cases h1;rw[a] at h2;cases h2
theorem Ext.trans{A g i:Ar}{ι e d:Io}{H H1 H2:Hp}(a:Ext A ι H g e H1)(b:Ext g e H1 i d H2):Ext A ι H i d H2 where
 len:=cC a.len b.len
 ag:=λr h=>(b.ag r (cO h a.len)).trans (a.ag r h)
 im:=a.im
 mo:=λc o h j=>b.mo c o (a.mo c o h j) λr k z=>by
  by_cases f:r<A.length
  .rw[a.ag r f] at z;exact j r f z
  .have:=a.nw r ω k
   rw[z,h] at this;cases this
 nw:=λr h1 h2=>by
  by_cases f:r<g.length
  .rw[b.ag r f];exact a.nw r h1 f
  .have n1:=b.nw r ω h2
   cases q:H (d r) with
   |none=>rfl
   |some o=>
    obtain⟨o',h'⟩:=a.al _ o q
    rw[h'] at n1;cases n1
 al:=λc o h=>by
  obtain⟨l,h1⟩:=a.al c o h
  exact b.al c l h1
section
variable{mg:aB}{A A':Ar}{ι ι':Io}{H H':Hp}
section
variable{n n':Nat}
mutual
theorem RV.ag(k:n<=n')(e:∀r,r<n->ι' r=ι r)(i:∀b o,jx o=false->H b=some o->H' b=some o):∀(d:D) (v:V),RV mg ι n H d v->RV mg ι' n' H' d v
 |.aG,_,h=>h
 |.bl _,_,h=>h
 |.int _,_,h=>h
 |.str _,_,h=>h
 |.tup ds,v,h=>by
  obtain⟨a,xs,f,g,j⟩:=h;exact⟨a,xs,f,i _ _ rfl g,au.ag k e i ds xs j⟩
 |.ref r,v,h=>⟨cO h.1 k,by rw[e r h.1];exact h.2⟩
 |.fl ns,v,h=>by
  obtain⟨a,o,f,g⟩:=h;exact⟨a,o,f,i _ _ rfl g⟩
 |.exc c,v,h=>by
  obtain⟨a,C,f,g,j⟩:=h;exact⟨a,C,f,g,i _ _ rfl j⟩
theorem au.ag(c:n<=n')(a:∀r,r<n->ι' r=ι r)(e:∀b o,jx o=false->H b=some o->H' b=some o):∀(ds:List D) (vs:List V),au mg ι n H ds vs->au mg ι' n' H' ds vs
 |[],_,h=>h
 |d::ds,vs,h=>by
  obtain⟨x,r,f,g,i⟩:=h;exact⟨x,r,f,RV.ag c a e d x g,au.ag c a e ds r i⟩
end
theorem RK.ag(c:n<=n')(a:∀r,r<n->ι' r=ι r)(e:∀b o,jx o=false->H b=some o->H' b=some o):∀(ds:List (Key×D)) (vs:List (Key×V)),RK mg ι n H ds vs->RK mg ι' n' H' ds vs
 |[],_,h=>h
 |d::ds,vs,h=>by
  obtain⟨x,r,f,g,i⟩:=h;exact⟨x,r,f,RV.ag c a e _ x g,RK.ag c a e ds r i⟩
theorem RF.ag(c:n<=n')(a:∀r,r<n->ι' r=ι r)(e:∀b o,jx o=false->H b=some o->H' b=some o):∀(ds:List (Str×D)) (vs:List (Str×V)),RF mg ι n H ds vs->RF mg ι' n' H' ds vs
 |[],_,h=>h
 |d::ds,vs,h=>by
  obtain⟨x,r,f,g,i⟩:=h;exact⟨x,r,f,RV.ag c a e _ x g,RF.ag c a e ds r i⟩
theorem CO.ag{a:Addr}(g:n<=n')(d:∀r,r<n->ι' r=ι r)(i:∀b o,jx o=false->H b=some o->H' b=some o)(j:∀o,H a=some o->H' a=some o):∀(c:C),CO mg ι n H a c->CO mg ι' n' H' a c
 |.lst ds,h=>by
  obtain⟨xs,e,f⟩:=h;exact⟨xs,j _ e,au.ag g d i ds xs f⟩
 |.dct ds,h=>by
  obtain⟨xs,e,f⟩:=h;exact⟨xs,j _ e,RK.ag g d i ds xs f⟩
 |.bw o ds,h=>by
  obtain⟨xs,e,f⟩:=h;exact⟨xs,j _ e,RK.ag g d i ds xs f⟩
 |.ins cl ds,h=>by
  obtain⟨k,dx,xs,l,e,f⟩:=h;exact⟨k,dx,xs,l,j _ e,RF.ag g d i ds xs f⟩
end
theorem RV.ext(e:Ext A ι H A' ι' H')(d:D)(v:V)(h:RV mg ι A.length H d v):RV mg ι' A'.length H' d v:=RV.ag e.len e.ag (λ_ _ m h=>e.fix m h) d v h
theorem au.ext(e:Ext A ι H A' ι' H')(d:List D)(v:List V)(h:au mg ι A.length H d v):au mg ι' A'.length H' d v:=au.ag e.len e.ag (λ_ _ m h=>e.fix m h) d v h
theorem RK.ext(e:Ext A ι H A' ι' H')(d:List (Key×D))(v:List (Key×V))(h:RK mg ι A.length H d v):RK mg ι' A'.length H' d v:=RK.ag e.len e.ag (λ_ _ m h=>e.fix m h) d v h
theorem CO.ext{a:Addr}(e:Ext A ι H A' ι' H')(b:∀o,H a=some o->H' a=some o)(c:C)(h:CO mg ι A.length H a c):CO mg ι' A'.length H' a c:=CO.ag (a:=a) (H:=H) (H':=H') e.len e.ag (λ_ _ m h=>e.fix m h) b c h
theorem au.length:∀{ds:List D} {vs:List V} {n:Nat},au mg ι n H ds vs->ds.length=vs.length
 |[],vs,_,h=>by have h':vs=[]:=h;rw[h'];rfl
 |d::ds,vs,n,h=>by
  obtain⟨x,r,rfl,_,a⟩:=h;simp[au.length a]
theorem au.get:∀{ds:List D} {vs:List V} {n i:Nat} {d:D},au mg ι n H ds vs->ds[i]?=some d->∃v,vs[i]?=some v/\RV mg ι n H d v
 |[],_,_,_,_,_,e=>by simp at e
 |d::ds,vs,n,0,d',h,e=>by
  obtain⟨x,r,rfl,a,_⟩:=h;simp at e;subst e;exact⟨x,rfl,a⟩
 |d::ds,vs,n,i+1,d',h,e=>by
  obtain⟨x,r,rfl,_,b⟩:=h;obtain⟨v,h1,h2⟩:=au.get (i:=i) b (by simpa using e);exact⟨v,by simpa using h1,h2⟩
theorem au.app:∀{ds es:List D} {vs ws:List V} {n:Nat},au mg ι n H ds vs->au mg ι n H es ws->au mg ι n H (ds++es) (vs++ws)
 |[],_,vs,_,_,h,q=>by have h':vs=[]:=h;rw[h'];exact q
 |d::ds,es,vs,ws,n,h,q=>by
  obtain⟨x,r,rfl,a,b⟩:=h;exact⟨x,r++ws,rfl,a,au.app b q⟩
theorem au.take:∀{ds:List D} {vs:List V} {n:Nat} (k:Nat),au mg ι n H ds vs->au mg ι n H (ds.take k) (vs.take k)
 |ds,vs,n,0,h=>by simp[au]
 |[],vs,n,k+1,h=>by have h':vs=[]:=h;rw[h'];simp[au]
 |d::ds,vs,n,k+1,h=>by
  obtain⟨x,r,rfl,a,b⟩:=h;exact⟨x,r.take k,rfl,a,au.take k b⟩
theorem au.drop:∀{ds:List D} {vs:List V} {n:Nat} (k:Nat),au mg ι n H ds vs->au mg ι n H (ds.drop k) (vs.drop k)
 |ds,vs,n,0,h=>by simpa using h
 |[],vs,n,k+1,h=>by have h':vs=[]:=h;rw[h'];simp[au]
 |d::ds,vs,n,k+1,h=>by
  obtain⟨x,r,rfl,b,a⟩:=h;exact au.drop k a
theorem au.set:∀{ds:List D} {vs:List V} {n:Nat} (i:Nat) {d:D} {v:V},au mg ι n H ds vs->RV mg ι n H d v->au mg ι n H (ds.set i d) (vs.set i v)
 |[],vs,n,i,_,_,h,_=>by have h':vs=[]:=h;rw[h'];simp[au]
 |d::ds,vs,n,0,_,_,h,q=>by
  obtain⟨x,r,rfl,b,a⟩:=h;exact⟨_,r,rfl,q,a⟩
 |d::ds,vs,n,i+1,_,_,h,q=>by
  obtain⟨x,r,rfl,b,a⟩:=h;exact⟨x,_,rfl,b,au.set i a q⟩
theorem RA.im(R:RA mg ι H A):∀r,r<A.length->∃o,H (ι r)=some o/\jx o=true:=λr h=>by
 obtain⟨c',b⟩:∃c',A[r]?=some c':=⟨A[r],by rw[a_ h]⟩;have:=R.iC r c' b;cases c' with
 |lst ds=>obtain⟨xs,a,_⟩:=this;exact⟨_,a,rfl⟩
 |dct ds=>obtain⟨xs,a,_⟩:=this;exact⟨_,a,rfl⟩
 |bw o ds=>obtain⟨xs,a,_⟩:=this;exact⟨_,a,rfl⟩
 |ins cl ds=>obtain⟨c,dx,xs,_,a,_⟩:=this;exact⟨_,a,rfl⟩
theorem RA.refl(R:RA mg ι H A):Ext A ι H A ι H:=⟨aF _,λ_ _=>rfl,R.im,λ_ _ h _=>h,λr h1 h2=>absurd h2 ω,λ_ o h=>⟨o,h⟩⟩
theorem RA.vA(R:RA mg ι H A){p:Addr}{o:HO}(a:H p=none):Ext A ι H A ι (upd H p o):=
 ⟨aF _,λ_ _=>rfl,R.im,λb u h _=>by rw[bf (dh h a)];exact h,λr h1 h2=>absurd h2 ω,λb u h=>⟨u,by rw[bf (dh h a)];exact h⟩⟩
theorem RA.z4(R:RA mg ι H A){p:Addr}{o:HO}{c:C}(a:H p=none):Ext A ι H (A++[c]) (λr=>if r=A.length then p else ι r) (upd H p o):=
 ⟨θ,λr h=>by
  show(if r=A.length then p else ι r)=ι r;rw[ao ω],R.im,λb u h _=>by rw[bf (dh h a)];exact h,λr h1 h2=>by
  have e:r=A.length:=by simp at h2;omega
  show H (if r=A.length then p else ι r)=none;rw[aA e];exact a,λb u h=>⟨u,by rw[bf (dh h a)];exact h⟩⟩
theorem RA.nP(R:RA mg ι H A){r:Nat}{o:HO}{c:C}(d:r<A.length):Ext A ι H (A.set r c) ι (upd H (ι r) o):=
 ⟨θ,λ_ _=>rfl,R.im,λb u h f=>by rw[bf (λe=>f r d e.symm)];exact h,λq h1 h2=>absurd h2 (by simp;omega),λb u h=>by
  by_cases a:b=ι r
  .subst a;exact⟨o,fh⟩
  .exact⟨u,by rw[bf a];exact h⟩⟩
theorem RA.fix(R:RA mg ι H A)(e:Ext A ι H A ι H')(k:∀b o,H b=some o->H' b=some o):RA mg ι H' A:=⟨λr c h=>CO.ext e (λo q=>k _ o q) c (R.iC r c h),R.inj⟩
theorem RA.push{p:Addr}{o:HO}{c:C}(R:RA mg ι H A)(e:H p=none)(hc:CO mg (λr=>if r=A.length then p else ι r) (A.length+1) (upd H p o) p c):
  RA mg (λr=>if r=A.length then p else ι r) (upd H p o) (A++[c])/\Ext A ι H (A++[c]) (λr=>if r=A.length then p else ι r) (upd H p o):=by
 have E:Ext A ι H (A++[c]) (λr=>if r=A.length then p else ι r) (upd H p o):=R.z4 e;have i:∀r,r<A.length->∃u,H (ι r)=some u:=λr h=>by
  obtain⟨c',f⟩:∃c',A[r]?=some c':=⟨A[r],by rw[a_ h]⟩;have:=R.iC r c' f;cases c' with
  |lst ds=>obtain⟨xs,b,_⟩:=this;exact⟨_,b⟩
  |dct ds=>obtain⟨xs,b,_⟩:=this;exact⟨_,b⟩
  |bw o ds=>obtain⟨xs,b,_⟩:=this;exact⟨_,b⟩
  |ins cl ds=>obtain⟨l,dx,xs,_,b,_⟩:=this;exact⟨_,b⟩
 refine⟨⟨λr c' h=>?_,λr q g j h=>?_⟩,E⟩
 .by_cases g:r<A.length
  .rw[iu g] at h
   have:=CO.ext E (a:=ι r) (λo' q=>by rw[bf (dh q e)];exact q) c' (R.iC r c' h);show CO mg _ _ _ (if r=A.length then p else ι r) c';rw[ao ω];exact this
  .have k:r=A.length:=by
    have:=(bY.mp h).1;simp at this;omega
   subst k;simp at h;subst h;show CO mg _ _ _ (if A.length=A.length then p else ι A.length) c;rw[aA rfl];simpa using hc
 .simp at g j
  have h':(if r=A.length then p else ι r)=(if q=A.length then p else ι q):=h;by_cases h1:r=A.length
  .by_cases h2:q=A.length
   .rw[h1,h2]
   .rw[aA h1,ao h2] at h'
    obtain⟨u,d⟩:=i q ω;rw[<-h',e] at d;cases d
  .by_cases h2:q=A.length
   .rw[ao h1,aA h2] at h'
    obtain⟨u,d⟩:=i r ω;rw[h',e] at d;cases d
   .rw[ao h1,ao h2] at h'
    exact R.inj r q ω ω h'
theorem RA.put{r:Nat}{u o:HO}{c c':C}(R:RA mg ι H A)(i:A[r]?=some c)(m:H (ι r)=some u)(n:jx u=true)(hc:CO mg ι A.length (upd H (ι r) o) (ι r) c'):
  RA mg ι (upd H (ι r) o) (A.set r c')/\Ext A ι H (A.set r c') ι (upd H (ι r) o):=by
 have f:=(bY.mp i).1;have E:Ext A ι H (A.set r c') ι (upd H (ι r) o):=R.nP f;refine⟨⟨λq d h=>?_,λa b j k=>R.inj a b (by simpa using j) (by simpa using k)⟩,E⟩;by_cases g:q=r
 .subst g
  rw[eF f] at h;cases h;simpa using hc
 .rw[eE (Ne.symm g)] at h
  have l:=(bY.mp h).1;have:=CO.ext E (a:=ι q) (λo' z=>by rw[bf (λe=>g (R.inj q r l f e))];exact z) d (R.iC q d h);simpa using this
end
abbrev bO:=List (Option D)
noncomputable def lk:bO->Nat->Option D
 |[],_=>none
 |x::_,0=>x
 |_::r,i+1=>lk r i
theorem vU:∀(τ:bO) (i:Nat),lk τ i=(τ[i]?).join
 |[],i=>by simp[lk]
 |x::r,0=>by simp[lk]
 |x::r,i+1=>by simp[lk,vU r i]
structure En where
 A:Ar
 ι:Io
 H:Hp
structure RS(mg:aB)(ι:Io)(n:Nat)(H:Hp)(τ:bO)(σ:L2.St):Prop where
 len:τ.length=σ.length
 at':∀i d,lk τ i=some d->∃v,σ[i]?=some (some v)/\RV mg ι n H d v
structure dH(mg:aB)(N:En)(A:Ar)(ι:Io)(τ:bO)(σ:L2.St)(H:Hp):Prop where
 ra:RA mg ι H A
 rs:RS mg ι A.length H τ σ
 ex:Ext N.A N.ι N.H A ι H
abbrev DK:=D->Ar->Prop
abbrev aP:=bO->Ar->DK->Prop
abbrev eU:=bO->Ar->(Bool->Ar->Prop)->Prop
abbrev dw:=bO->Ar->(List D->Ar->Prop)->Prop
def Kt(mg:aB)(A:Ar)(ι:Io)(H:Hp)(R:DK)(Q:VK):Prop:=∀v A' ι' H' u,R v A'->Ext A ι H A' ι' H'->RA mg ι' H' A'->RV mg ι' A'.length H' v u->Q u H'
def o_(mg:aB)(A:Ar)(ι:Io)(H:Hp)(R:Bool->Ar->Prop)(Q:Bool->Hp->Prop):Prop:=∀v A' ι' H',R v A'->Ext A ι H A' ι' H'->RA mg ι' H' A'->Q v H'
def LH(mg:aB)(A:Ar)(ι:Io)(H:Hp)(R:List D->Ar->Prop)(Q:List V->Hp->Prop):Prop:=∀v A' ι' H' u,R v A'->Ext A ι H A' ι' H'->RA mg ι' H' A'->au mg ι' A'.length H' v u->Q u H'
def up(mg:aB)(N:En)(m:aP):TE:=λσ H Q=>∃A ι τ R,dH mg N A ι τ σ H/\m τ A R/\Kt mg A ι H R Q
def cW(mg:aB)(N:En)(m:eU):TT:=λσ H Q=>∃A ι τ R,dH mg N A ι τ σ H/\m τ A R/\o_ mg A ι H R Q
noncomputable def fO(mg:aB)(N:En)(m:dw):TA:=λσ H Q=>∃A ι τ R,dH mg N A ι τ σ H/\m τ A R/\LH mg A ι H R Q
section
variable{mg:aB}{N:En}{A A':Ar}{ι ι':Io}{τ:bO}{σ:L2.St}{H H':Hp}
theorem RS.ext(e:Ext A ι H A' ι' H')(r:RS mg ι A.length H τ σ):RS mg ι' A'.length H' τ σ:=⟨r.len,λi d h=>by
 obtain⟨v,h1,h2⟩:=r.at' i d h;exact⟨v,h1,RV.ext e d v h2⟩⟩
theorem dH.next(S:dH mg N A ι τ σ H)(e:Ext A ι H A' ι' H')(r:RA mg ι' H' A'):dH mg N A' ι' τ σ H':=⟨r,S.rs.ext e,S.ex.trans e⟩
theorem Kt.from{R:DK}{Q:VK}(k:Kt mg A ι H R Q)(e:Ext A ι H A' ι' H'):Kt mg A' ι' H' R Q:=λv b a H2 u q c=>k v b a H2 u q (e.trans c)
theorem o_.from{R:Bool->Ar->Prop}{Q:Bool->Hp->Prop}(k:o_ mg A ι H R Q)(e:Ext A ι H A' ι' H'):o_ mg A' ι' H' R Q:=λv b a H2 q c=>k v b a H2 q (e.trans c)
theorem Kt.here{R:DK}{Q:VK}{d:D}{v:V}(k:Kt mg A ι H R Q)(r:RA mg ι H A)(q:R d A)(h:RV mg ι A.length H d v):Q v H:=k d A ι H v q r.refl r h
theorem o_.here{R:Bool->Ar->Prop}{Q:Bool->Hp->Prop}{b:Bool}(k:o_ mg A ι H R Q)(r:RA mg ι H A)(q:R b A):Q b H:=k b A ι H q r.refl r
end
section
variable{X:Cx}{e:Expr}
theorem dJ{t t':TE}(h:PE X e t)(w:∀σ H Q,t' σ H Q->t σ H Q):PE X e t':=λpins s σ H Q I q=>h pins s σ H Q I (w σ H Q q)
theorem vt{t t':TT}(h:PT X e t)(w:∀σ H Q,t' σ H Q->t σ H Q):PT X e t':=λpins s σ H Q I q=>h pins s σ H Q I (w σ H Q q)
theorem Fl{t t':TT}(h:PW X e t)(w:∀σ H Q,t' σ H Q->t σ H Q):PW X e t':=λwhole pins s σ H Q I q=>h whole pins s σ H Q I (w σ H Q q)
theorem ET{es:List Expr}{t t':TA}(h:PA X es t)(w:∀σ H Q,t' σ H Q->t σ H Q):PA X es t':=λpos pins s σ H Q I q=>h pos pins s σ H Q I (w σ H Q q)
theorem iT{st:Stmt}{t t':TS}(h:PS X st t)(w:∀D σ H,t' D σ H->t D σ H):PS X st t':=λpins s σ H D I q=>h pins s σ H D I (w D σ H q)
theorem Fj{st:List Stmt}{t t':TS}(h:dU X st t)(w:∀D σ H,t' D σ H->t D σ H):dU X st t':=λpins s σ H D I q=>h pins s σ H D I (w D σ H q)
end
noncomputable def h_(i:Nat):aP:=λτ A R=>match lk τ i with
 |some v=>R v A
 |none=>False
noncomputable def dC(d:D):aP:=λ_ A R=>R d A
section
variable{X:Cx}{N:En}{pos:Pos}
theorem Np{i:Nat}{x:Str}(b:X.N[i]?=some x)(c:pC X.env.scope x)(hd:(x==("__debug__":Str))=false:=by decide)(a:(x==("__classdict__":Str))=false:=by decide):PE X (.Name x pos) (up X.mg N (h_ i)):=
 dJ (UT b c hd a) λσ H Q h=>by
  obtain⟨A,ι,τ,R,S,h,k⟩:=h;unfold h_ at h;split at h
  .rename_i v e
   obtain⟨u,h1,h2⟩:=S.rs.at' i v e;exact⟨u,h1,k.here S.ra h h2⟩
  .exact h.elim
theorem rR{e:Expr}{d:D}{v:V}(h:PE X e (tC v))(r:∀ι n H,RV X.mg ι n H d v):PE X e (up X.mg N (dC d)):=
 dJ h λσ H Q h=>by
  obtain⟨A,ι,τ,R,S,h,k⟩:=h;exact k.here S.ra h (r _ _ _)
theorem ai{i j}:PE X (.Constant (.int i) j pos) (up X.mg N (dC (.int i))):=rR UE λ_ _ _=>rfl
theorem ic{b j}:PE X (.Constant (.bool b) j pos) (up X.mg N (dC (.bl b))):=rR Us λ_ _ _=>rfl
theorem jP{j}:PE X (.Constant .none j pos) (up X.mg N (dC .aG)):=rR UJ λ_ _ _=>rfl
theorem bE{x j}:PE X (.Constant (.str x) j pos) (up X.mg N (dC (.str x))):=rR UP λ_ _ _=>rfl
theorem lA{x:Str}{i:Int}{t:Tok}(a:X.mg x=some (.int i t))(b:Gl X x:=by rfl)(hd:(x==("__debug__":Str))=false:=by decide):PE X (.Name x pos) (up X.mg N (dC (.int i))):=
 rR (UC (v:=.int i) b a ⟨_,rfl⟩ hd) λ_ _ _=>rfl
end
abbrev fk:=D->D->Ar->DK->Prop
def eW(mg:aB)(r:R2)(f:fk):Prop:=∀x y A ι H u v R Q,RA mg ι H A->RV mg ι A.length H x u->RV mg ι A.length H y v->f x y A R->Kt mg A ι H R Q->r u v H Q
noncomputable def dO(f:fk)(ma mb:aP):aP:=λτ A R=>ma τ A λx A1=>mb τ A1 λy A2=>f x y A2 R
section
variable{X:Cx}{N:En}{pos:Pos}{a b c:Expr}{ma mb mc:aP}{f f':fk}{r r':R2}
theorem xZ(h:eW X.mg r f){σ:L2.St}{H:Hp}{Q:VK}(q:up X.mg N (dO f ma mb) σ H Q):tO r (up X.mg N ma) (up X.mg N mb) σ H Q:=by
 obtain⟨A,ι,τ,R,S,q,k⟩:=q;have q:ma τ A (λx a=>mb τ a λy b=>f x y b R):=q;refine⟨A,ι,τ,_,S,q,λx a c H1 u i e j l=>?_⟩;refine⟨a,c,τ,_,S.next e j,i,λy b d H2 v m g n v2=>?_⟩;exact h x y b d H2 u v R Q n (RV.ext g x u l) v2 m (k.from (e.trans g))
theorem pL{op:Operator}(c:bL X (binaryOp op) r)(hd:eW X.mg r f)(d:PE X a (up X.mg N ma))(e:PE X b (up X.mg N mb)):PE X (.BinOp a op b pos) (up X.mg N (dO f ma mb)):=
 dJ (UL c d e) λ_ _ _ h=>xZ hd h
theorem vc{op:CmpOp}(c:bL X (compareOp op) r)(hd:eW X.mg r f)(d:PE X a (up X.mg N ma))(e:PE X b (up X.mg N mb))(g:behindInMarks op b=false):PE X (.Compare a [op] [b] pos) (up X.mg N (dO f ma mb)):=
 dJ (Uy c d e g) λ_ _ _ h=>xZ hd h
noncomputable def g_(m:aP):eU:=λτ A R=>m τ A λx A1=>match x with
 |.bl k=>R k A1
 |_=>False
theorem B5{t:TE}{m:aP}(d:∀σ H Q,up X.mg N m σ H Q->t σ H Q){σ:L2.St}{H:Hp}{Q:Bool->Hp->Prop}(q:cW X.mg N (g_ m) σ H Q):BQ t σ H Q:=by
 obtain⟨A,ι,τ,R,S,q,k⟩:=q;refine d _ _ _ ⟨A,ι,τ,_,S,q,λx e a H1 u c f g h=>?_⟩;cases x with
 |bl b=>exact⟨b,h,k b e a H1 c f g⟩
 |_=>exact c.elim
theorem lC{op:CmpOp}(c:bL X (compareOp op) r)(hd:eW X.mg r f)(d:PE X a (up X.mg N ma))(e:PE X b (up X.mg N mb))(g:behindInMarks op b=false):PT X (.Compare a [op] [b] pos) (cW X.mg N (g_ (dO f ma mb))):=
 vt (VB c d e g) λ_ _ _ h=>B5 (λ_ _ _ h=>xZ hd h) h
noncomputable def rN(f f':fk)(ma mb mc:aP):aP:=λτ A R=>ma τ A λx A1=>mb τ A1 λy A2=>f x y A2 λz A3=>match z with
 |.bl k=>cond k (mc τ A3 λw A4=>f' y w A4 R) (R (.bl false) A3)
 |_=>False
theorem KH(h:eW X.mg r f)(h':eW X.mg r' f'){σ:L2.St}{H:Hp}{Q:VK}(q:up X.mg N (rN f f' ma mb mc) σ H Q):BN r r' (up X.mg N ma) (up X.mg N mb) (up X.mg N mc) σ H Q:=by
 obtain⟨A,ι,τ,R,S,q,k⟩:=q;refine⟨A,ι,τ,_,S,q,λx s e H1 u t a m B=>?_⟩;refine⟨s,e,τ,_,S.next a m,t,λy C g H2 v D c n v2=>?_⟩;refine h x y C g H2 u v _ _ n (RV.ext c x u B) v2 D λz E i L w j d o F=>?_;cases z with
 |bl b=>
  refine⟨b,F,?_⟩;cases b with
  |true=>
   rw[aA rfl];refine⟨E,i,τ,_,((S.next a m).next c n).next d o,j,λz G l I w J p K v4=>?_⟩;exact h' y z G l I v w R Q K (RV.ext (d.trans p) y v v2) v4 J (k.from (((a.trans c).trans d).trans p))
  |false=>
   rw[ao bU];exact(k.from ((a.trans c).trans d)).here o j rfl
 |_=>exact j.elim
theorem Ng{op d:CmpOp}(i:bL X (compareOp op) r)(e:bL X (compareOp d) r')(hd:eW X.mg r f)(g:eW X.mg r' f')(j:PE X a (up X.mg N ma))(k:PE X b (up X.mg N mb))(hc:PE X c (up X.mg N mc))
  (l:lastMarks [op,d] [b,c]=false:=by with_unfolding_all rfl):PE X (.Compare a [op,d] [b,c] pos) (up X.mg N (rN f f' ma mb mc)):=
 dJ (Ux i e j k hc l) λ_ _ _ h=>KH hd g h
theorem NO{op d:CmpOp}(i:bL X (compareOp op) r)(e:bL X (compareOp d) r')(hd:eW X.mg r f)(g:eW X.mg r' f')(j:PE X a (up X.mg N ma))(k:PE X b (up X.mg N mb))(hc:PE X c (up X.mg N mc))
  (l:lastMarks [op,d] [b,c]=false:=by with_unfolding_all rfl):PT X (.Compare a [op,d] [b,c] pos) (cW X.mg N (g_ (rN f f' ma mb mc))):=
 vt (VA i e j k hc l) λ_ _ _ h=>B5 (λ_ _ _ h=>KH hd g h) h
theorem e_{m:aP}(h:PE X a (up X.mg N m))(b:∀whole,isTrue a X.env whole=(do let v <-whole;standAt a.pos;holding [v] (truthy v)):=by intro _;rfl):PT X a (cW X.mg N (g_ m)):=
 vt (VD h b) λ_ _ _ q=>B5 (λ_ _ _ h=>h) q
noncomputable def MK(t u:eU):eU:=λτ A R=>t τ A λc A1=>cond c (u τ A1 R) (R false A1)
noncomputable def MY(t u:eU):eU:=λτ A R=>t τ A λc A1=>cond c (R true A1) (u τ A1 R)
noncomputable def MX(t:eU):eU:=λτ A R=>t τ A λc A1=>R (!c) A1
variable{tA tB:eU}{rest:List Expr}
theorem rV(b:PT X a (cW X.mg N tA)):PW X (.BoolOp .And [a] pos) (cW X.mg N tA):=pw_and1 b
theorem iE(b:PT X a (cW X.mg N tA)):PW X (.BoolOp .Or [a] pos) (cW X.mg N tA):=pw_or1 b
theorem pN(g:PT X a (cW X.mg N tA))(h:PW X (.BoolOp .And (b::rest) pos) (cW X.mg N tB)):PW X (.BoolOp .And (a::b::rest) pos) (cW X.mg N (MK tA tB)):=
 Fl (pw_and g h) λσ H Q q=>by
  obtain⟨A,ι,τ,R,S,q,k⟩:=q;refine⟨A,ι,τ,_,S,q,λx i c H1 e d f=>?_⟩;cases x with
  |true=>rw[aA rfl];exact⟨i,c,τ,_,S.next d f,e,k.from d⟩
  |false=>rw[ao bU];exact(k.from d).here f e
theorem gO(g:PT X a (cW X.mg N tA))(h:PW X (.BoolOp .Or (b::rest) pos) (cW X.mg N tB)):PW X (.BoolOp .Or (a::b::rest) pos) (cW X.mg N (MY tA tB)):=
 Fl (pw_or g h) λσ H Q q=>by
  obtain⟨A,ι,τ,R,S,q,k⟩:=q;refine⟨A,ι,τ,_,S,q,λx i c H1 e d f=>?_⟩;cases x with
  |true=>rw[aA rfl];exact(k.from d).here f e
  |false=>rw[ao bU];exact⟨i,c,τ,_,S.next d f,e,k.from d⟩
theorem fF(b:PT X a (cW X.mg N tA)):PT X (.UnaryOp .Not a pos) (cW X.mg N (MX tA)):=
 vt (VC b) λσ H Q q=>by
  obtain⟨A,ι,τ,R,S,q,k⟩:=q;exact⟨A,ι,τ,_,S,q,λx g c H1 d e f=>(k.from e).here f d⟩
noncomputable def ML(ma mb:aP):aP:=λτ A R=>ma τ A λx A1=>match x with
 |.bl c=>cond c (mb τ A1 R) (R (.bl false) A1)
 |_=>False
theorem zP{op}(h:PE X a (up X.mg N ma)):PE X (.BoolOp op [a] pos) (up X.mg N ma):=UK h
theorem zN(h:PE X a (up X.mg N ma))(i:PE X (.BoolOp .And (b::rest) pos) (up X.mg N mb)):PE X (.BoolOp .And (a::b::rest) pos) (up X.mg N (ML ma mb)):=
 dJ (Ur h i) λσ H Q q=>by
  obtain⟨A,ι,τ,R,S,q,k⟩:=q;refine⟨A,ι,τ,_,S,q,λx j d H1 u e f g l=>?_⟩;cases x with
  |bl c=>
   refine⟨c,l,?_⟩;cases c with
   |true=>rw[aA rfl];exact⟨j,d,τ,_,S.next f g,e,k.from f⟩
   |false=>rw[ao bU];exact(k.from f).here g e rfl
  |_=>exact e.elim
noncomputable def MP(t:eU)(ma mb:aP):aP:=λτ A R=>t τ A λc A1=>cond c (ma τ A1 R) (mb τ A1 R)
theorem ve(hc:PT X c (cW X.mg N tA))(i:PE X a (up X.mg N ma))(j:PE X b (up X.mg N mb)):PE X (.IfExp c a b pos) (up X.mg N (MP tA ma mb)):=
 dJ (UD hc i j) λσ H Q q=>by
  obtain⟨A,ι,τ,R,S,q,k⟩:=q;refine⟨A,ι,τ,_,S,q,λx f d H1 g e h=>?_⟩;cases x with
  |true=>rw[aA rfl];exact⟨f,d,τ,_,S.next e h,g,k.from e⟩
  |false=>rw[ao bU];exact⟨f,d,τ,_,S.next e h,g,k.from e⟩
end
noncomputable def uZ:dw:=λ_ A R=>R [] A
noncomputable def rO(m:aP)(n:dw):dw:=λτ A R=>m τ A λx A1=>n τ A1 λxs A2=>R (x::xs) A2
noncomputable def M0(n:dw):aP:=λτ A R=>n τ A λxs A1=>xs.length<=sizeLine/\R (.tup xs) A1
noncomputable def MU(n:dw):aP:=λτ A R=>n τ A λxs A1=>xs.length<=sizeLine/\R (.ref A1.length) (A1++[.lst xs])
section
variable{X:Cx}{N:En}{pos:Pos}{e:Expr}{es:List Expr}{m:aP}{n:dw}
theorem af:PA X [] (fO X.mg N uZ):=ET HF λσ H Q q=>by
 obtain⟨A,ι,τ,R,S,q,k⟩:=q;exact k [] A ι H [] q S.ra.refl S.ra rfl
theorem aa(f:PE X e (up X.mg N m))(g:PA X es (fO X.mg N n))(h:starEach (e::es) X.env=(false,eval e X.env)::starEach es X.env:=by rfl):PA X (e::es) (fO X.mg N (rO m n)):=
 ET (AY f g h) λσ H Q q=>by
  obtain⟨A,ι,τ,R,S,q,k⟩:=q;refine⟨A,ι,τ,_,S,q,λx i a H1 u j c l o=>?_⟩;refine⟨i,a,τ,_,S.next c l,j,λy p b H2 v r d s v2=>?_⟩;exact k _ p b H2 _ r (c.trans d) s ⟨u,v,rfl,RV.ext d x u o,v2⟩
theorem v_{mg:aB}{A:Ar}{ι:Io}{H:Hp}{R:DK}{Q:VK}{ds:List D}{xs:List V}{p:Addr}(k:Kt mg A ι H R Q)(r:RA mg ι H A)(h:au mg ι A.length H ds xs)(q:R (.tup ds) A)(a:H p=none):Q (.ref p) (upd H p (.tup xs)):=by
 have E:Ext A ι H A ι (upd H p (.tup xs)):=r.vA a;exact k _ A ι _ _ q E (r.fix E λb o z=>by rw[bf (dh z a)];exact z) ⟨p,xs,rfl,fh,au.ext E ds xs h⟩
theorem jT{mg:aB}{A:Ar}{ι:Io}{H:Hp}{R:DK}{Q:VK}{ds:List D}{xs:List V}{p:Addr}(k:Kt mg A ι H R Q)(r:RA mg ι H A)(h:au mg ι A.length H ds xs)(q:R (.ref A.length) (A++[.lst ds]))(a:H p=none):Q (.ref p) (upd H p (.lst xs)):=by
 have E:Ext A ι H (A++[.lst ds]) (λr=>if r=A.length then p else ι r) (upd H p (.lst xs)):=r.z4 a;obtain⟨b,d⟩:=r.push (c:=.lst ds) (o:=.lst xs) a ⟨xs,fh,by simpa using au.ext E ds xs h⟩;refine k _ _ _ _ _ q d b ⟨θ,?_⟩;show V.ref p=V.ref (if A.length=A.length then p else ι A.length);rw[aA rfl]
theorem bW{c}(h:PA X es (fO X.mg N n)):PE X (.Tuple es c pos) (up X.mg N (M0 n)):=dJ (UQ h) λσ H Q q=>by
 obtain⟨A,ι,τ,R,S,q,k⟩:=q;refine⟨A,ι,τ,_,S,q,λx i d H1 u a e f b=>?_⟩;exact⟨by rw[<-au.length b];exact a.1,λp g=>v_ (k.from e) f b a.2 g⟩
theorem cE(h:PA X es (fO X.mg N n)):PE X (.List es pos) (up X.mg N (MU n)):=dJ (UI h) λσ H Q q=>by
 obtain⟨A,ι,τ,R,S,q,k⟩:=q;refine⟨A,ι,τ,_,S,q,λx g c H1 u a d e b=>?_⟩;exact⟨by rw[<-au.length b];exact a.1,λp f=>jT (k.from d) e b a.2 f⟩
end
section
variable{mg:aB}{K:Frag}{A:Ar}{ι:Io}{H:Hp}
theorem RA.lst(r:RA mg ι H A){q:Nat}{ds:List D}(h:A[q]?=some (.lst ds)):∃xs,H (ι q)=some (.lst xs)/\au mg ι A.length H ds xs:=r.iC q _ h
theorem RA.dct(r:RA mg ι H A){q:Nat}{ds:List (Key×D)}(h:A[q]?=some (.dct ds)):∃xs,H (ι q)=some (.dK xs)/\RK mg ι A.length H ds xs:=r.iC q _ h
theorem RA.bw(r:RA mg ι H A){q:Nat}{o:Obj}{ds:List (Key×D)}(h:A[q]?=some (.bw o ds)):∃xs,H (ι q)=some (.bT o (.dK xs))/\RK mg ι A.length H ds xs:=r.iC q _ h
theorem au.ints:∀(ns:List Int) {n:Nat},au mg ι n H (ns.map D.int) (ns.map V.int)
 |[],_=>rfl
 |i::r,n=>⟨_,_,rfl,rfl,au.ints r⟩
theorem au.Ht{n:Nat}{ds:List D}(h:au mg ι n H ds []):ds=[]:=by
 cases ds with
 |nil=>rfl
 |cons d r=>obtain⟨x,r,e,_⟩:=h;cases e
end
abbrev H8(K:Frag):R2:=λx y H Q=>jy (λi j=>.int (i+j)) x y H Q\/(∃i j,x=.str i/\y=.str j/\i.length+j.length<=sizeLine/\Q (.str (i++j)) H)\/Ia K x y H Q\/H_ x y H Q
theorem Tv{X:Cx}:bL X (binaryOp .Add) (H8 X.K):=TU.or (TV.or (TY.or TX))
@[irreducible] def uW(r q:Nat)(A:Ar)(R:DK):Prop:=match A[r]?,A[q]? with
 |some (.lst xs),some (.lst ys)=>xs.length+ys.length<=sizeLine/\R (.ref A.length) (A++[.lst (xs++ys)])
 |_,_=>False
noncomputable def zw:fk:=λx y A R=>match x,y with
 |.int i,.int j=>R (.int (i+j)) A
 |.str a,.str b=>a.length+b.length<=sizeLine/\R (.str (a++b)) A
 |.tup xs,.tup ys=>xs.length+ys.length<=sizeLine/\R (.tup (xs++ys)) A
 |.ref r,.ref q=>uW r q A R
 |_,_=>False
theorem M3{mg:aB}{K:Frag}:eW mg (H8 K) zw:=by
 intro x y A ι H u v R Q ra e f h k;unfold zw at h;split at h
 .cases e;cases f
  exact .inl ⟨_,_,rfl,rfl,k.here ra h rfl⟩
 .cases e;cases f
  exact .inr (.inl ⟨_,_,rfl,rfl,h.1,k.here ra h.2 rfl⟩)
 .obtain⟨a,xs,rfl,g,c⟩:=e
  obtain⟨b,ys,rfl,i,d⟩:=f;refine .inr (.inr (.inl ⟨a,b,xs,ys,rfl,rfl,bP.of g,bP.of i,by rw[<-au.length c,<-au.length d];exact h.1,λz=>?_,λ_ z=>?_,λ_ _ p j=>v_ k ra (c.app d) h.2 j⟩))
  .subst z
   obtain rfl:=au.Ht c;exact k.here ra h.2 ⟨b,ys,rfl,i,d⟩
  .subst z
   obtain rfl:=au.Ht d;exact k.here ra h.2 ⟨a,xs,rfl,g,by rw[lX];exact c⟩
 .rename_i r q
  unfold uW at h;split at h
  .rename_i xs ys g i
   obtain⟨l,h1,c⟩:=ra.lst g;obtain⟨vs,h2,d⟩:=ra.lst i;obtain⟨_,rfl⟩:=e;obtain⟨_,rfl⟩:=f;exact .inr (.inr (.inr ⟨_,_,l,vs,rfl,rfl,h1,h2,by rw[<-au.length c,<-au.length d];exact h.1,λp j=>jT k ra (c.app d) h.2 j⟩))
  .exact h.elim
 .exact h.elim
noncomputable def intD(C:Int->Int->Prop)(g:Int->Int->D):fk:=λx y A R=>match x,y with
 |.int i,.int j=>C i j/\R (g i j) A
 |_,_=>False
noncomputable def vJ(g:Int->Int->D):fk:=λx y A R=>match x,y with
 |.int i,.int j=>R (g i j) A
 |_,_=>False
theorem u6{mg:aB}{C:Int->Int->Prop}{g:Int->Int->V}{g':Int->Int->D}(a:∀i j ι n H,RV mg ι n H (g' i j) (g i j)):eW mg (rI C g) (intD C g'):=by
 intro x y A ι H u v R Q ra b c h k;unfold intD at h;split at h
 .cases b;cases c
  exact⟨_,_,rfl,rfl,h.1,k.here ra h.2 (a _ _ _ _ _)⟩
 .exact h.elim
theorem EM{mg:aB}{g:Int->Int->V}{g':Int->Int->D}(a:∀i j ι n H,RV mg ι n H (g' i j) (g i j)):eW mg (jy g) (vJ g'):=by
 intro x y A ι H u v R Q ra b c h k;unfold vJ at h;split at h
 .cases b;cases c
  exact⟨_,_,rfl,rfl,k.here ra h (a _ _ _ _ _)⟩
 .exact h.elim
abbrev X5:fk:=vJ λi j=>.int (i - j)
abbrev SX:fk:=intD qT λi j=>.int (i*j)
abbrev NB:fk:=intD (λ_ j=>0<j/\j.natAbs.log2<9000) λi j=>.int (i/j)
abbrev SW:fk:=intD (λ_ j=>0<j) λi j=>.int (i%j)
abbrev Vf:fk:=intD CD λi j=>.int (i ^ j.toNat)
section
variable{X:Cx}{N:En}{pos:Pos}{a b c:Expr}{ma mb mc:aP}
theorem c6(c:PE X a (up X.mg N ma))(d:PE X b (up X.mg N mb)):PE X (.BinOp a .Add b pos) (up X.mg N (dO zw ma mb)):=pL Tv M3 c d
theorem rS(c:PE X a (up X.mg N ma))(d:PE X b (up X.mg N mb)):PE X (.BinOp a .Sub b pos) (up X.mg N (dO X5 ma mb)):=pL Uj (EM λ_ _ _ _ _=>rfl) c d
theorem eZ(c:PE X a (up X.mg N ma))(d:PE X b (up X.mg N mb)):PE X (.BinOp a .Mult b pos) (up X.mg N (dO SX ma mb)):=pL Uc (u6 λ_ _ _ _ _=>rfl) c d
theorem pK(c:PE X a (up X.mg N ma))(d:PE X b (up X.mg N mb)):PE X (.BinOp a .FloorDiv b pos) (up X.mg N (dO NB ma mb)):=pL T6 (u6 λ_ _ _ _ _=>rfl) c d
theorem mJ(c:PE X a (up X.mg N ma))(d:PE X b (up X.mg N mb)):PE X (.BinOp a .Mod b pos) (up X.mg N (dO SW ma mb)):=pL Ub (u6 λ_ _ _ _ _=>rfl) c d
theorem Nl(c:PE X a (up X.mg N ma))(d:PE X b (up X.mg N mb)):PE X (.BinOp a .Pow b pos) (up X.mg N (dO Vf ma mb)):=pL Ui (u6 λ_ _ _ _ _=>rfl) c d
noncomputable def MV(m:aP):aP:=λτ A R=>m τ A λx A1=>match x with
 |.int i=>R (.int (-i)) A1
 |_=>False
theorem Nk(c:PE X a (up X.mg N ma)):PE X (.UnaryOp .USub a pos) (up X.mg N (MV ma)):=dJ (US Y0 c) λσ H Q q=>by
 obtain⟨A,ι,τ,R,S,q,k⟩:=q;refine⟨A,ι,τ,_,S,q,λx h d H1 u b e f g=>?_⟩;cases x with
 |int i=>cases g;exact⟨i,rfl,(k.from e).here f b rfl⟩
 |_=>exact b.elim
end
abbrev Il:R2:=λx y H Q=>jy (λi j=>.bl (decide (i<j))) x y H Q\/∃i j,x=.str i/\y=.str j/\Q (.bl (decide (i.cps.toList<j.cps.toList))) H
abbrev Ik:R2:=λx y H Q=>jy (λi j=>.bl (decide (i<=j))) x y H Q\/∃i j,x=.str i/\y=.str j/\Q (.bl (!decide (j.cps.toList<i.cps.toList))) H
theorem Tz{X:Cx}:bL X (compareOp .Lt) Il:=T_.or Ua
theorem sI{X:Cx}:bL X (compareOp .LtE) Ik:=T8.or T9
noncomputable def AK:fk:=λx y A R=>match x,y with
 |.int i,.int j=>R (.bl (decide (i<j))) A
 |.str a,.str b=>R (.bl (decide (a.cps.toList<b.cps.toList))) A
 |_,_=>False
noncomputable def nZ:fk:=λx y A R=>match x,y with
 |.int i,.int j=>R (.bl (decide (i<=j))) A
 |.str a,.str b=>R (.bl (!decide (b.cps.toList<a.cps.toList))) A
 |_,_=>False
theorem M8{mg:aB}:eW mg Il AK:=by
 intro x y A ι H u v R Q ra a b h k;unfold AK at h;split at h
 .cases a;cases b;exact .inl ⟨_,_,rfl,rfl,k.here ra h rfl⟩
 .cases a;cases b;exact .inr ⟨_,_,rfl,rfl,k.here ra h rfl⟩
 .exact h.elim
theorem rP{mg:aB}:eW mg Ik nZ:=by
 intro x y A ι H u v R Q ra a b h k;unfold nZ at h;split at h
 .cases a;cases b;exact .inl ⟨_,_,rfl,rfl,k.here ra h rfl⟩
 .cases a;cases b;exact .inr ⟨_,_,rfl,rfl,k.here ra h rfl⟩
 .exact h.elim
abbrev Gb:fk:=vJ λi j=>.bl (decide (j<i))
theorem M5{mg:aB}:eW mg (jy λi j=>.bl (decide (j<i))) Gb:=EM λ_ _ _ _ _=>rfl
noncomputable def Gy:D->Bool
 |.aG=>true
 |_=>false
noncomputable def AV:fk:=λx y A R=>match y with
 |.aG=>R (.bl (!Gy x)) A
 |_=>False
theorem RV.Tq{mg:aB}{ι:Io}{n:Nat}{H:Hp}{x:D}{u:V}(r:RV mg ι n H x u):decide (u=.aG)=Gy x:=by
 cases x with
 |aG=>cases r;rfl
 |bl b=>cases r;rfl
 |int b=>cases r;rfl
 |str b=>cases r;rfl
 |tup ds=>obtain⟨a,xs,rfl,_⟩:=r;rfl
 |ref q=>obtain⟨_,rfl⟩:=r;rfl
 |fl ns=>obtain⟨a,o,rfl,_⟩:=r;rfl
 |exc c=>obtain⟨a,C,rfl,_⟩:=r;rfl
theorem Nb{mg:aB}:eW mg (λx y H Q=>y=.aG/\Q (.bl (!decide (x=.aG))) H) AV:=by
 intro x y A ι H u v R Q ra a b h k;unfold AV at h;split at h
 .cases b
  refine⟨rfl,?_⟩;rw[a.Tq];exact k.here ra h rfl
 .exact h.elim
mutual
noncomputable def toQ:D->PyData
 |.aG=>.none
 |.bl b=>.bool b
 |.int i=>.int i
 |.str x=>.str x
 |.tup xs=>.tuple (bR xs)
 |.ref _=>.none
 |.fl ns=>.list (ns.map .int)
 |.exc _=>.none
noncomputable def bR:List D->List PyData
 |[]=>[]
 |d::r=>toQ d::bR r
end
mutual
noncomputable def gf:D->Bool
 |.tup xs=>f6 xs
 |.ref _=>false
 |.exc _=>false
 |_=>true
noncomputable def f6:List D->Bool
 |[]=>true
 |d::r=>gf d&&f6 r
end
noncomputable def cV(A:Ar):D->PyData
 |.ref r=>match A[r]? with
  |some (.lst xs)=>.list (bR xs)
  |_=>.none
 |d=>toQ d
noncomputable def i7(A:Ar):D->Bool
 |.ref r=>match A[r]? with
  |some (.lst xs)=>f6 xs
  |_=>false
 |d=>gf d
section
variable{mg:aB}{K:Frag}{A:Ar}{ι:Io}{H:Hp}
theorem NG:∀ns:List Int,gI K H (ns.map V.int) (ns.map PyData.int):=gI.ints
mutual
theorem RV.dp{n:Nat}:∀(d:D) (v:V),gf d=true->RV mg ι n H d v->Dp K H v (toQ d)
 |.aG,_,_,h=>by cases h;exact .aG
 |.bl b,_,_,h=>by cases h;exact .bl b
 |.int i,_,_,h=>by cases h;exact .int i
 |.str x,_,_,h=>by cases h;exact .str x
 |.tup ds,v,p,h=>by
  obtain⟨a,xs,rfl,e,r⟩:=h;exact .tup (bP.of e) (au.dp ds xs (by simpa[gf] using p) r)
 |.ref _,_,p,_=>by simp[gf] at p
 |.fl ns,v,_,h=>by
  obtain⟨a,o,rfl,e⟩:=h;exact .lst (.inl (.inr ⟨o,e⟩)) (NG ns)
 |.exc _,_,p,_=>by simp[gf] at p
theorem au.dp{n:Nat}:∀(ds:List D) (vs:List V),f6 ds=true->au mg ι n H ds vs->gI K H vs (bR ds)
 |[],vs,_,h=>by cases (show vs=[] from h);exact .nil
 |d::ds,vs,p,h=>by
  obtain⟨x,r,rfl,h1,h2⟩:=h;have a:gf d=true/\f6 ds=true:=by simpa[f6] using p
  exact .cons (RV.dp d x a.1 h1) (au.dp ds r a.2 h2)
end
theorem RA.dp(ra:RA mg ι H A){d:D}{v:V}(p:i7 A d=true)(h:RV mg ι A.length H d v):Dp K H v (cV A d):=by
 cases d with
 |ref r=>
  obtain⟨_,rfl⟩:=h;unfold i7 at p;unfold cV;simp only at p ⊢;split at p
  .rename_i xs e
   obtain⟨a,h1,b⟩:=ra.lst e;exact .lst (aV.of h1) (au.dp xs a p b)
  .cases p
 |_=>exact RV.dp _ v p h
end
@[irreducible] def gK(neg:Bool)(x y:D)(A:Ar)(R:DK):Prop:=i7 A x=true/\i7 A y=true/\(cV A x).canLay0=true/\(cV A y).canLay0=true/\min (cV A x).depth (cV A y).depth<=64/\R (.bl (if neg then !PyData.eqv (cV A x) (cV A y) else PyData.eqv (cV A x) (cV A y))) A
noncomputable def vz:fk:=λx y A R=>match x,y with
 |.int i,.int j=>R (.bl (decide (i=j))) A
 |.str a,.str b=>R (.bl (decide (a=b))) A
 |.bl a,.bl b=>R (.bl (decide (a=b))) A
 |x,y=>gK false x y A R
noncomputable def v8:fk:=λx y A R=>match x,y with
 |.int i,.int j=>R (.bl (!decide (i=j))) A
 |.str a,.str b=>R (.bl (!decide (a=b))) A
 |.bl a,.bl b=>R (.bl (!decide (a=b))) A
 |x,y=>gK true x y A R
theorem Hz{X:Cx}(a:X.A.units+64<cLine):bL X (compareOp .Eq) (λx y H Q=>Bl x y H Q\/Bm X.K x y H Q):=T4.or (T5 a)
theorem HA{X:Cx}(a:X.A.units+64<cLine):bL X (compareOp .NotEq) (λx y H Q=>Bp x y H Q\/Bq X.K x y H Q):=Ud.or (Ue a)
theorem EJ{mg:aB}{K:Frag}:eW mg (λx y H Q=>Bl x y H Q\/Bm K x y H Q) vz:=by
 intro x y A ι H u v R Q ra a b h k;unfold vz at h;split at h
 .cases a;cases b
  rename_i i j;refine .inl ⟨rfl,?_⟩;have e:decide (V.int i=V.int j)=decide (i=j):=θ
  rw[e];exact k.here ra h rfl
 .cases a;cases b
  rename_i i j;refine .inl ⟨rfl,?_⟩;have e:decide (V.str i=V.str j)=decide (i=j):=θ
  rw[e];exact k.here ra h rfl
 .cases a;cases b
  rename_i i j;refine .inl ⟨rfl,?_⟩;have e:decide (V.bl i=V.bl j)=decide (i=j):=θ
  rw[e];exact k.here ra h rfl
 .unfold gK at h
  obtain⟨p1,p2,c,d,hd,q⟩:=h;exact .inr ⟨_,_,ra.dp p1 a,ra.dp p2 b,c,d,hd,k.here ra q rfl⟩
theorem EO{mg:aB}{K:Frag}:eW mg (λx y H Q=>Bp x y H Q\/Bq K x y H Q) v8:=by
 intro x y A ι H u v R Q ra a b h k;unfold v8 at h;split at h
 .cases a;cases b
  rename_i i j;refine .inl ⟨rfl,?_⟩;have e:decide (V.int i=V.int j)=decide (i=j):=θ
  rw[e];exact k.here ra h rfl
 .cases a;cases b
  rename_i i j;refine .inl ⟨rfl,?_⟩;have e:decide (V.str i=V.str j)=decide (i=j):=θ
  rw[e];exact k.here ra h rfl
 .cases a;cases b
  rename_i i j;refine .inl ⟨rfl,?_⟩;have e:decide (V.bl i=V.bl j)=decide (i=j):=θ
  rw[e];exact k.here ra h rfl
 .unfold gK at h
  obtain⟨p1,p2,c,d,hd,q⟩:=h;exact .inr ⟨_,_,ra.dp p1 a,ra.dp p2 b,c,d,hd,k.here ra q rfl⟩
noncomputable def gc:D->Option Key
 |.int i=>some (.inl i)
 |.str x=>some (.inr x)
 |_=>none
noncomputable def br:List (Key×D)->Key->Option D
 |[],_=>none
 |p::r,k=>if p.1=k then some p.2 else br r k
@[irreducible] def lH(r:Nat)(y:D)(A:Ar)(R:DK):Prop:=match A[r]? with
 |some (.lst xs)=>(match y with
  |.int i=>(match cY xs i with
   |some v=>R v A
   |none=>False)
  |_=>False)
 |some (.dct kvs)=>(match gc y with
  |some k=>(match br kvs k with
   |some v=>R v A
   |none=>False)
  |none=>False)
 |some (.bw _ kvs)=>(match gc y with
  |some k=>(match br kvs k with
   |some v=>R v A
   |none=>False)
  |none=>False)
 |_=>False
noncomputable def sr:fk:=λx y A R=>match x,y with
 |.tup xs,.int i=>match cY xs i with
  |some v=>R v A
  |none=>False
 |.str z,.int i=>match cY z.cps.toList i with
  |some c=>z.length<=sizeLine/\R (.str ⟨#[c]⟩) A
  |none=>False
 |.fl ns,.int i=>match cY ns i with
  |some c=>R (.int c) A
  |none=>False
 |.ref r,y=>lH r y A R
 |_,_=>False
section
variable{mg:aB}{K:Frag}{A:Ar}{ι:Io}{H:Hp}
theorem au.cY{n:Nat}{ds:List D}{vs:List V}{i:Int}{d:D}(r:au mg ι n H ds vs)(h:L2.cY ds i=some d):∃v,L2.cY vs i=some v/\RV mg ι n H d v:=by
 unfold L2.cY at h ⊢;rw[<-au.length r];cases q:iX ds.length i with
 |none=>rw[q] at h;cases h
 |some j=>
  rw[q] at h;exact au.get r h
theorem LV{α β:Type}(f:α->β)(xs:List α)(i:Int):L2.cY (xs.map f) i=(L2.cY xs i).map f:=by
 unfold L2.cY;rw[aK];cases iX xs.length i with
 |none=>rfl
 |some j=>simp
theorem RK.get{n:Nat}:∀{kvs:List (Key×D)} {xs:List (Key×V)} {k:Key},RK mg ι n H kvs xs->(∀d,br kvs k=some d->∃v,fB xs k=some v/\RV mg ι n H d v)/\(br kvs k=none->fB xs k=none)
 |[],xs,k,h=>by
  cases (show xs=[] from h);exact⟨λd e=>by simp[br] at e,λ_=>rfl⟩
 |p::r,xs,k,h=>by
  obtain⟨x,r',rfl,h1,h2⟩:=h;obtain⟨b,c⟩:=RK.get (k:=k) h2;unfold br;by_cases a:p.1=k
  .rw[aA a]
   have e:fB ((p.1,x)::r') k=some x:=by simp[fB,a]
   rw[e];exact⟨λd z=>by cases z;exact⟨x,rfl,h1⟩,λz=>by cases z⟩
  .rw[ao a]
   have e:fB ((p.1,x)::r') k=fB r' k:=by simp[fB,j9,a]
   rw[e];exact⟨b,c⟩
theorem nX{n:Nat}{y:D}{v:V}{k:Key}(h:gc y=some k)(r:RV mg ι n H y v):v=kV k:=by
 cases y with
 |int i=>cases h;exact r
 |str x=>cases h;exact r
 |_=>cases h
end
noncomputable def Ig:R2:=λx y H Q=>∃a v,x=.ref a/\o8 H a y (some v)/\Q v H
theorem Rm{X:Cx}(i:X.A.units+64<cLine):jJ X Ig:=by
 intro value slice pins s σ H x y v u Q I c d h e;obtain⟨a,z,rfl,g,q⟩:=h;cases c;exact tail_any (Nz I g) PySem.F.slot_dict_getitem.lookup (M4 ω I g d λj k f b=>⟨z,H,f,b,q⟩) e
abbrev Ie(K:Frag):R2:=λx y H Q=>Ic K x y H Q\/Ig x y H Q
theorem Q8{X:Cx}(a:X.A.units+64<cLine):jJ X (Ie X.K):=Ro.or (Rm a)
theorem M7{mg:aB}{K:Frag}:eW mg (Ie K) sr:=by
 intro x y A ι H u v R Q ra i f h k;unfold sr at h;split at h
 .obtain⟨a,xs,rfl,j,b⟩:=i
  cases f;split at h
  .rename_i d e
   obtain⟨z,hz,c⟩:=b.cY e;exact .inl (.inr (.inl ⟨a,xs,_,z,rfl,rfl,bP.of j,hz,k.here ra h c⟩))
  .exact h.elim
 .cases i;cases f
  split at h
  .rename_i d e
   exact .inl (.inr (.inr ⟨_,_,_,rfl,rfl,h.1,e,k.here ra h.2 rfl⟩))
  .exact h.elim
 .obtain⟨a,o,rfl,j⟩:=i
  cases f;split at h
  .rename_i d e
   exact .inl (.inl ⟨a,_,_,_,rfl,rfl,.inl (.inr ⟨o,j⟩),by rw[LV,e];rfl,k.here ra h rfl⟩)
  .exact h.elim
 .obtain⟨_,rfl⟩:=i
  unfold lH at h;split at h
  .rename_i xs e
   obtain⟨g,h1,b⟩:=ra.lst e;split at h
   .cases f
    split at h
    .rename_i d e
     obtain⟨z,hz,c⟩:=b.cY e;exact .inl (.inl ⟨_,g,_,z,rfl,rfl,aV.of h1,hz,k.here ra h c⟩)
    .exact h.elim
   .exact h.elim
  .rename_i kvs e
   obtain⟨g,h1,b⟩:=ra.dct e;split at h
   .rename_i l m
    cases nX m f;split at h
    .rename_i d n
     obtain⟨z,hz,c⟩:=(RK.get b).1 d n;exact .inr ⟨_,z,rfl,.inl ⟨g,l,.inl h1,rfl,hz.symm⟩,k.here ra h c⟩
    .exact h.elim
   .exact h.elim
  .rename_i o kvs e
   obtain⟨g,h1,b⟩:=ra.bw e;split at h
   .rename_i l m
    cases nX m f;split at h
    .rename_i d n
     obtain⟨z,hz,c⟩:=(RK.get b).1 d n;exact .inr ⟨_,z,rfl,.inl ⟨g,l,.inr ⟨o,h1⟩,rfl,hz.symm⟩,k.here ra h c⟩
    .exact h.elim
   .exact h.elim
  .exact h.elim
 .exact h.elim
theorem Ni{X:Cx}{N:En}{pos:Pos}{a b:Expr}{ma mb:aP}(c:X.A.units+64<cLine)(d:PE X a (up X.mg N ma))(e:PE X b (up X.mg N mb))(f:yZ b):PE X (.Subscript a b pos) (up X.mg N (dO sr ma mb)):=
 dJ (UG (Q8 c) d e f) λ_ _ _ h=>xZ M7 h
structure nE where
 nx:bO->Ar->Prop
 rt:DK
 bk:bO->Ar->Prop:=λ_ _=>False
 ct:bO->Ar->Prop:=λ_ _=>False
abbrev dF:=nE->bO->Ar->Prop
def kh(mg:aB)(A:Ar)(ι:Io)(H:Hp)(R:bO->Ar->Prop)(Q:L2.St->Hp->Prop):Prop:=∀τ A' ι' σ H',R τ A'->Ext A ι H A' ι' H'->RA mg ι' H' A'->RS mg ι' A'.length H' τ σ->Q σ H'
structure uG(mg:aB)(A:Ar)(ι:Io)(H:Hp)(R:nE)(Q:Ends):Prop where
 nx:kh mg A ι H R.nx Q.nx
 rt:Kt mg A ι H R.rt Q.rt
 bk:kh mg A ι H R.bk Q.bk
 ct:kh mg A ι H R.ct Q.ct
def dj(mg:aB)(N:En)(m:dF):TS:=λQ σ H=>∃A ι τ R,dH mg N A ι τ σ H/\m R τ A/\uG mg A ι H R Q
section
variable{mg:aB}{N:En}{A A':Ar}{ι ι':Io}{τ bx:bO}{σ σ':L2.St}{H H':Hp}
theorem kh.from{R:bO->Ar->Prop}{Q:L2.St->Hp->Prop}(k:kh mg A ι H R Q)(e:Ext A ι H A' ι' H'):kh mg A' ι' H' R Q:=λτ b a σ H2 q c=>k τ b a σ H2 q (e.trans c)
theorem uG.from{R:nE}{Q:Ends}(k:uG mg A ι H R Q)(e:Ext A ι H A' ι' H'):uG mg A' ι' H' R Q:=⟨k.nx.from e,k.rt.from e,k.bk.from e,k.ct.from e⟩
theorem kh.here{R:bO->Ar->Prop}{Q:L2.St->Hp->Prop}(k:kh mg A ι H R Q)(S:dH mg N A ι τ σ H)(q:R τ A):Q σ H:=k τ A ι σ H q S.ra.refl S.ra S.rs
theorem dH.to(S:dH mg N A ι τ σ H)(e:Ext A ι H A' ι' H')(r:RA mg ι' H' A')(s:RS mg ι' A'.length H' bx σ'):dH mg N A' ι' bx σ' H':=⟨r,s,S.ex.trans e⟩
theorem GY:∀(τ:bO) (i:Nat) (d:D),i<τ.length->lk (τ.set i (some d)) i=some d
 |[],i,d,h=>by simp at h
 |x::r,0,d,_=>rfl
 |x::r,i+1,d,h=>GY r i d (by simpa using h)
theorem GX:∀(τ:bO) (i j:Nat) (d:Option D),j≠i->lk (τ.set i d) j=lk τ j
 |[],i,j,d,_=>rfl
 |x::r,0,0,d,h=>absurd rfl h
 |x::r,0,j+1,d,_=>rfl
 |x::r,i+1,0,d,_=>rfl
 |x::r,i+1,j+1,d,h=>GX r i j d ω
theorem RS.set{n:Nat}{i:Nat}{d:D}{v:V}(r:RS mg ι n H τ σ)(h:RV mg ι n H d v):RS mg ι n H (τ.set i (some d)) (σ.set i (some v)):=⟨by simp[r.len],λj e q=>by
 by_cases a:j=i
 .subst a
  by_cases b:j<τ.length
  .rw[GY _ _ _ b] at q
   cases q;refine⟨v,?_,h⟩;rw[eF (by rw[<-r.len];exact b)]
  .rw[List.set_eq_of_length_le ω] at q
   rw[vU,o6 ω] at q;cases q
 .rw[GX _ _ _ _ a] at q
  obtain⟨w,h1,h2⟩:=r.at' j e q;exact⟨w,by rw[eE (Ne.symm a)];exact h1,h2⟩⟩
theorem dH.set{i:Nat}{d:D}{v:V}(S:dH mg N A ι τ σ H)(h:RV mg ι A.length H d v):dH mg N A ι (τ.set i (some d)) (σ.set i (some v)) H:=⟨S.ra,S.rs.set h,S.ex⟩
end
noncomputable def II:dF:=λR τ A=>R.nx τ A
noncomputable def Bw(t u:dF):dF:=λR τ A=>t {R with nx:=u R} τ A
noncomputable def Bv(m:aP):dF:=λR τ A=>m τ A λ_ A1=>R.nx τ A1
noncomputable def Wl(m:aP):dF:=λR τ A=>m τ A R.rt
noncomputable def IG(c:eU)(t u:dF):dF:=λR τ A=>c τ A λb A1=>cond b (t R τ A1) (u R τ A1)
section
variable{X:Cx}{N:En}{pos:Pos}{st:Stmt}{rest:List Stmt}{t u:dF}{e:Expr}{m:aP}
theorem bM:dU X [] (dj X.mg N II):=Fj Vy λQ σ H q=>by
 obtain⟨A,ι,τ,R,S,q,k⟩:=q;exact k.nx.here S q
theorem av(h1:PS X st (dj X.mg N t))(h2:dU X rest (dj X.mg N u)):dU X (st::rest) (dj X.mg N (Bw t u)):=Fj (Vx h1 h2) λQ σ H q=>by
 obtain⟨A,ι,τ,R,S,q,k⟩:=q;exact⟨A,ι,τ,_,S,q,⟨λa d b e H1 f c g h=>⟨d,b,a,R,S.to c g h,f,k.from c⟩,k.rt,k.bk,k.ct⟩⟩
theorem ay(h1:PS X st (dj X.mg N t)):dU X [st] (dj X.mg N t):=Vz h1
theorem c7(b:PE X e (up X.mg N m))(c:swapsWith e none pos.line X.env=pure false:=by rfl):PS X (.Expr e pos) (dj X.mg N (Bv m)):=iT (Vp b c) λQ σ H q=>by
 obtain⟨A,ι,τ,R,S,q,k⟩:=q;exact⟨A,ι,τ,_,S,q,λv h d H1 u f a g i=>(k.nx.from a).here (S.next a g) f⟩
theorem aN(a:PE X e (up X.mg N m)):PS X (.Return (some e) pos) (dj X.mg N (Wl m)):=iT (Vu a) λQ σ H q=>by
 obtain⟨A,ι,τ,R,S,q,k⟩:=q;exact⟨A,ι,τ,_,S,q,k.rt⟩
theorem bJ{c:Expr}{a b:List Stmt}{tc:eU}(hc:PT X c (cW X.mg N tc))(i:dU X a (dj X.mg N t))(j:dU X b (dj X.mg N u)):PS X (.If c a b pos) (dj X.mg N (IG tc t u)):=iT (Vr hc i j) λQ σ H q=>by
 obtain⟨A,ι,τ,R,S,q,k⟩:=q;refine⟨A,ι,τ,_,S,q,λx f d H1 g e h=>?_⟩;cases x with
 |true=>rw[aA rfl];exact⟨f,d,τ,R,S.next e h,g,k.from e⟩
 |false=>rw[ao bU];exact⟨f,d,τ,R,S.next e h,g,k.from e⟩
end
abbrev kc:=D->bO->Ar->(bO->Ar->Prop)->Prop
abbrev o9:=List D->bO->Ar->(bO->Ar->Prop)->Prop
noncomputable def tU(mg:aB)(N:En)(g:kc):TG:=λv σ H Q=>∃A ι τ d R,dH mg N A ι τ σ H/\RV mg ι A.length H d v/\g d τ A R/\kh mg A ι H R Q
noncomputable def xW(mg:aB)(N:En)(g:o9):ko:=λvs σ H Q=>∃A ι τ ds R,dH mg N A ι τ σ H/\au mg ι A.length H ds vs/\g ds τ A R/\kh mg A ι H R Q
noncomputable def gN(i:Nat):kc:=λd τ A R=>R (τ.set i (some d)) A
noncomputable def F_:o9:=λds τ A R=>match ds with
 |[]=>R τ A
 |_=>False
noncomputable def P9(g:kc)(h:o9):o9:=λds τ A R=>match ds with
 |d::r=>g d τ A λCA A1=>h r CA A1 R
 |[]=>False
noncomputable def gT(n:Nat)(g:o9):kc:=λd τ A R=>match d with
 |.tup ds=>ds.length=n/\g ds τ A R
 |_=>False
section
variable{X:Cx}{N:En}{pos:Pos}{e tg:Expr}{es:List Expr}{m:aP}{g:kc}{gs:o9}
theorem E7{t t':TG}(h:PG X tg t)(w:∀v σ H Q,t' v σ H Q->t v σ H Q):PG X tg t':=λpins s σ H v u Q I r q=>h pins s σ H v u Q I r (w v σ H Q q)
theorem E8{t t':ko}(h:ki X es t)(w:∀v σ H Q,t' v σ H Q->t v σ H Q):ki X es t':=λpins s σ H v u Q I r q=>h pins s σ H v u Q I r (w v σ H Q q)
theorem Nu{i:Nat}{x:Str}(a:X.N.Nodup)(hi:X.N[i]?=some x)(b:Loc X.env.scope x)(c:X.fn x=true\/X.env.scope.names.lookup x=some .local:=by first|exact .inl rfl|exact .inr rfl|assumption):PG X (.Name x pos) (tU X.mg N (gN i)):=
 E7 (HP a hi b c) λv σ H Q q=>by
  obtain⟨A,ι,τ,d,R,S,r,q,k⟩:=q;exact k.here (S.set r) q
theorem kB:ki X [] (xW X.mg N F_):=E8 oB λv σ H Q q=>by
 obtain⟨A,ι,τ,ds,R,S,r,q,k⟩:=q;unfold F_ at q;split at q
 .exact⟨r,k.here S q⟩
 .exact q.elim
theorem dB(h1:PG X e (tU X.mg N g))(h2:ki X es (xW X.mg N gs))(f:(assignEach (e::es) X.env).map (·.2)=assign e X.env::(assignEach es X.env).map (·.2):=by rfl):ki X (e::es) (xW X.mg N (P9 g gs)):=
 E8 (gR h1 h2 f) λv σ H Q q=>by
  obtain⟨A,ι,τ,ds,R,S,r,q,k⟩:=q;cases ds with
  |nil=>exact q.elim
  |cons d ds=>
   obtain⟨x,xs,rfl,h,i⟩:=r;refine⟨x,xs,rfl,A,ι,τ,d,_,S,h,q,λa j b l H1 m c a1 n=>?_⟩;exact⟨j,b,a,ds,R,S.to c a1 n,au.ext c ds xs i,m,k.from c⟩
theorem ku{k n:Nat}(hc:X.calm=true)(h:ki X es (xW X.mg N gs))(c:(assignEach es X.env).length=n:=by rfl)(b:(assignEach es X.env).findIdx? (·.1)=none:=by rfl):PG X (.Tuple es k pos) (tU X.mg N (gT n gs)):=
 E7 (oA hc h c b) λv σ H Q q=>by
  obtain⟨A,ι,τ,d,R,S,r,q,k⟩:=q;cases d with
  |tup ds=>
   obtain⟨a,xs,rfl,h1,h2⟩:=r;exact⟨a,xs,rfl,bP.of h1,by rw[<-au.length h2];exact q.1,A,ι,τ,ds,R,S,h2,q.2,k⟩
  |_=>exact q.elim
noncomputable def tE(i:Nat)(m:aP):dF:=λR τ A=>m τ A λv A1=>R.nx (τ.set i (some v)) A1
theorem NL{i:Nat}{x:Str}{pos':Pos}(b:X.N.Nodup)(hi:X.N[i]?=some x)(c:Loc X.env.scope x)(d:PE X e (up X.mg N m))(f:swapsWith e (some (.Name x pos')) pos.line X.env=pure false:=by rfl)(g:X.fn x=true\/X.env.scope.names.lookup x=some .local:=by first|exact .inl rfl|exact .inr rfl|assumption):
  PS X (.Assign [.Name x pos'] e pos) (dj X.mg N (tE i m)):=iT (Vv b hi c d f g) λQ σ H q=>by
 obtain⟨A,ι,τ,R,S,q,k⟩:=q;exact⟨A,ι,τ,_,S,q,λv o h H1 u j a l n=>(k.nx.from a).here ((S.next a l).set n) j⟩
noncomputable def Wh(i j:Nat)(n:dw):dF:=λR τ A=>n τ A λvs A1=>match vs with
 |[v,w]=>R.nx ((τ.set i (some v)).set j (some w)) A1
 |_=>False
theorem vp{i j:Nat}{x y:Str}{a b:Expr}{n:dw}{px py pt:Pos}{kt k2 d}(hc:X.calm=true)(h:X.N.Nodup)(hi:X.N[i]? =some x)(l:X.N[j]? =some y)(e:i≠j)
  (m:X.env.scope.names.lookup x=some .local)(o:X.env.scope.names.lookup y=some .local)(p:PA X [a,b] (fO X.mg N n))
  (r:swappedStores [.Tuple [.Name x px,.Name y py] kt pt] (.Tuple [a,b] k2 d) X.env=pure (some [x,y]))
  (s:swapsWithSole [.Tuple [.Name x px,.Name y py] kt pt] (.Tuple [a,b] k2 d) pos.line X.env=pure false:=by rfl):
  PS X (.Assign [.Tuple [.Name x px,.Name y py] kt pt] (.Tuple [a,b] k2 d) pos) (dj X.mg N (Wh i j n)):=iT (Vs hc h hi l e m o p r s) λQ σ H q=>by
 obtain⟨A,ι,τ,R,S,q,k⟩:=q
 refine⟨A,ι,τ,_,S,q,λvs D t H1 E c g u f=> ?_⟩
 match vs,c,f with
 |[v,w],c,f=>
  obtain⟨z,_,rfl,h1,B,_,rfl,h2,C⟩:=f
  obtain rfl:=C
  exact⟨z,B,rfl,(k.nx.from g).here (((S.next g u).set h1).set h2) c⟩
 |[],c,_=>exact c.elim
 |[_],c,_=>exact c.elim
 |_::_::_::_,c,_=>exact c.elim
end
abbrev DX:=Str->Ar->Prop
abbrev Ct:=List D->Ar->DK->DX->Prop
def LI(mg:aB)(A:Ar)(ι:Io)(H:Hp)(R:DX)(E:XK):Prop:=∀c A' ι' H' C,R c A'->mg c=some (.ref C)->Ext A ι H A' ι' H'->RA mg ι' H' A'->E (.ref C) none H'
noncomputable def ak(mg:aB)(n:Nat)(S:Ct):Sp:=λvs H Q E=>∃A ι ds R RE,ds.length=n/\RA mg ι H A/\au mg ι A.length H ds vs/\S ds A R RE/\Kt mg A ι H R Q/\LI mg A ι H RE E
noncomputable def EL(mg:aB)(N:En)(R:DX):XK:=λC _ H'=>∃c A' ι',(∃a,C=.ref a/\mg c=some (.ref a))/\Ext N.A N.ι N.H A' ι' H'/\RA mg ι' H' A'/\R c A'
noncomputable def zK(n:Nat)(S:Ct)(RE:DX)(m:dw):aP:=λτ A R=>m τ A λvs A1=>vs.length=n/\S vs A1 R RE
section
variable{X:Cx}{N:En}{k n:Nat}{x:Str}{ps:List Str}{S:Ct}{RE:DX}{e:Expr}{es:List Expr}{m:dw}{p pos:Pos}
theorem Nf(F:aj X.prog X.w X.K X.mg X.base k x ps (ak X.mg n S))(i:dW k X.A)(j:Passes (bV X.prog X.w) X (EL X.mg N RE))(l:PA X (e::es) (fO X.mg N m))(o:Gl X x:=by rfl)(a:(x==("__debug__":Str))=false:=by decide)
  (r:starEach (e::es) X.env=(false,eval e X.env)::starEach es X.env:=by rfl)(b:(backTo pos (starEach es X.env)).any (·.1)=false:=by rfl):
  PE X (.Call (.Name x p) (e::es) [] pos) (up X.mg N (zK n S RE m)):=dJ (Uw F i j l o a r b) λσ H Q q=>by
 obtain⟨A,ι,τ,R,Z,q,k⟩:=q;refine⟨A,ι,τ,_,Z,q,λvs s d H1 t g h u v=>?_⟩;show ak X.mg n S (t++[]) H1 Q (EL X.mg N RE);rw[lX];exact⟨s,d,vs,R,RE,g.1,u,v,g.2,k.from h,λc y f H2 C z hc B D=>⟨c,y,f,⟨C,rfl,hc⟩,(Z.ex.trans h).trans B,D,z⟩⟩
end
noncomputable def lO(n:Nat)(ds:List D):bO:=ds.map some++replicate n none
theorem AI:∀(ds:List D) (n i:Nat) (d:D),lk (lO n ds) i=some d->ds[i]?=some d
 |[],n,i,d,h=>by
  rw[vU] at h;simp[lO,List.getElem?_replicate] at h;split at h<;>simp at h
 |x::r,n,0,d,h=>by simpa[lO,lk] using h
 |x::r,n,i+1,d,h=>by simpa using AI r n i d h
theorem TopD.jQ{P:Program}{w:World}{K:Frag}{mg:aB}{base:Heap}{x:Str}{st:Stmt}{Nm ps:List Str}{k n:Nat}{S:Ct}(T:TopD K mg x st ps)(Sc:aW Nm ps (aI st))(D:ps.length=n)(W:ps.length<=Nm.length)
  (g:∀(N:En) (RE:DX) (X:Cx),X.prog=P->X.w=w->X.K=K->X.mg=mg->X.base=base->X.N=Nm->X.calm=true->X.ex=[]->(∃f j A outer s H E,X=cZ (bV P w) P w K mg base Nm x (aI st) f j A outer s H E)->dW k X.A->Raises X (EL X.mg N RE)->Passes (bV X.prog X.w) X (EL X.mg N RE)->
   ∀ds A R,S ds A R RE->ds.length=n->∃m,dU X (iD st) (dj X.mg N m)/\m {nx:=λ_ A'=>R .aG A',rt:=R} (lO (Nm.length - n) ds) A):aj P w K mg base (k+1) x ps (ak mg n S):=by
 refine T.fnX Sc (λvs H Q E h=> ?_) λf j A outer s H vs Q E F h=> ?_
 .obtain⟨A,ι,ds,R,RE,t,_,o,_⟩:=h
  rw[<-au.length o,t,D]
 .obtain⟨p,l,ds,R,RE,t,ra,o,G,y,J⟩:=h
  have B:∀C a H',EL mg ⟨p,l,H⟩ RE C a H'->E C none H':=λC a H' z=>by
   obtain⟨c,A',ι',⟨b,rfl,hc⟩,ex,r,q⟩:=z
   exact J c A' ι' H' b q hc ex r
  obtain⟨m,L,M⟩:=g ⟨p,l,H⟩ RE (cZ (bV P w) P w K mg base Nm x (aI st) f j A outer s H E) rfl rfl rfl rfl rfl rfl rfl rfl ⟨_,_,_,_,_,_,_,rfl⟩ F
   (λpins σ H1 u e h' C args I O z=>Ip pins σ H1 u e h' C args I O (B _ _ _ z))
   (λpins σ H1 u e s' I z=>HK pins σ H1 u e s' I (by
    obtain⟨a,C,H',h1,h2,U⟩:=z
    exact⟨a,C,H',h1,h2,B _ _ _ U⟩)) ds p R G t
  have V:=au.length o
  refine⟨_,L,p,l,_,_,⟨ra,⟨?_,λi d q=> ?_⟩,ra.refl⟩,M,⟨λτ A' ι' σ H' q e r _=>y _ A' ι' H' _ q e r rfl,y,λ_ _ _ _ _ q _ _ _=>q.elim,λ_ _ _ _ _ q _ _ _=>q.elim⟩⟩
  .simp[lO,L2.start]
   omega
  .obtain⟨v,h1,h2⟩:=au.get o (AI ds _ i d q)
   refine⟨v,?_,h2⟩
   have hi:=(bY.mp h1).1
   unfold L2.start
   rw[iu (by simpa using hi),ck,h1]
   rfl
abbrev gH:=List D->Ar->DK->Prop
def iy(mg:aB)(r:List V->Hp->VK->Prop)(f:gH):Prop:=∀ds A ι H us R Q,RA mg ι H A->au mg ι A.length H ds us->f ds A R->Kt mg A ι H R Q->r us H Q
noncomputable def rM(f:gH)(m:dw):aP:=λτ A R=>m τ A λvs A1=>f vs A1 R
section
variable{X:Cx}{N:En}{e:Expr}{es:List Expr}{m:dw}{p pos:Pos}{f:gH}{r:List V->Hp->VK->Prop}{x:Str}{id T:String}
theorem KG(h:iy X.mg r f){σ:L2.St}{H:Hp}{Q:VK}(q:up X.mg N (rM f m) σ H Q):BL r (fO X.mg N m) σ H Q:=by
 obtain⟨A,ι,τ,R,S,q,k⟩:=q;exact⟨A,ι,τ,_,S,q,λvs b a H1 c d e g i=>h vs b a H1 c R Q g i d (k.from e)⟩
theorem dI(hc:eN X (.builtin id) r)(hd:iy X.mg r f)(c:X.mg x=none)(d:bootBuiltins x=some (.builtin id))(g:PA X (e::es) (fO X.mg N m))(i:Gl X x:=by rfl)(j:x≠"__name__":=by decide)(a:(x==("__debug__":Str))=false:=by decide)
 (k:starEach (e::es) X.env=(false,eval e X.env)::starEach es X.env:=by rfl)(b:(backTo pos (starEach es X.env)).any (·.1)=false:=by rfl):PE X (.Call (.Name x p) (e::es) [] pos) (up X.mg N (rM f m)):=dJ (HM hc i c d g j a k b) λ_ _ _ h=>KG hd h
theorem ie(hc:eN X (.type T) r)(hd:iy X.mg r f)(c:X.mg x=none)(d:bootBuiltins x=some (.type T))(g:PA X (e::es) (fO X.mg N m))(i:Gl X x:=by rfl)(j:x≠"__name__":=by decide)(a:(x==("__debug__":Str))=false:=by decide)
 (k:starEach (e::es) X.env=(false,eval e X.env)::starEach es X.env:=by rfl)(b:(backTo pos (starEach es X.env)).any (·.1)=false:=by rfl):PE X (.Call (.Name x p) (e::es) [] pos) (up X.mg N (rM f m)):=dJ (Uv hc i c d g j a k b) λ_ _ _ h=>KG hd h
end
@[irreducible] def vQ(r:Nat)(A:Ar)(R:DK):Prop:=match A[r]? with
 |some (.lst xs)=>R (.int xs.length) A
 |some (.dct kvs)=>R (.int kvs.length) A
 |_=>False
noncomputable def GP:gH:=λvs A R=>match vs with
 |[.tup xs]=>R (.int xs.length) A
 |[.str z]=>z.length<=sizeLine/\R (.int z.length) A
 |[.fl ns]=>R (.int ns.length) A
 |[.ref r]=>vQ r A R
 |_=>False
theorem RK.length{mg:aB}{ι:Io}{H:Hp}:∀{ds:List (Key×D)} {vs:List (Key×V)} {n:Nat},RK mg ι n H ds vs->ds.length=vs.length
 |[],vs,_,h=>by have h':vs=[]:=h;rw[h'];rfl
 |d::ds,vs,n,h=>by
  obtain⟨x,r,rfl,_,a⟩:=h;simp[RK.length a]
theorem iQ{X:Cx}:eN X (.builtin "len") (λxs H Q=>(∃p ys,xs=[.ref p]/\(aV X.K H p ys\/bP X.K H p ys)/\Q (.int ys.length) H)\/(∃z,xs=[.str z]/\z.length<=sizeLine/\Q (.int z.length) H)\/∃a kvs,xs=[V.ref a]/\H a=some (.dK kvs)/\Q (.int kvs.length) H):=Me.or (Mf.or Mc)
theorem ia{mg:aB}{K:Frag}:iy mg (λxs H Q=>(∃p ys,xs=[.ref p]/\(aV K H p ys\/bP K H p ys)/\Q (.int ys.length) H)\/(∃z,xs=[.str z]/\z.length<=sizeLine/\Q (.int z.length) H)\/∃a kvs,xs=[V.ref a]/\H a=some (.dK kvs)/\Q (.int kvs.length) H) GP:=by
 intro ds A ι H c R Q ra rs h k;unfold GP at h;split at h
 .obtain⟨_,_,rfl,⟨a,xs,rfl,d,b⟩,rfl⟩:=rs
  exact .inl ⟨a,xs,rfl,.inr (bP.of d),k.here ra h (by rw[au.length b];rfl)⟩
 .obtain⟨_,_,rfl,rfl,rfl⟩:=rs
  exact .inr (.inl ⟨_,rfl,h.1,k.here ra h.2 rfl⟩)
 .obtain⟨_,_,rfl,⟨a,o,rfl,d⟩,rfl⟩:=rs
  exact .inl ⟨a,_,rfl,.inl (.inl (.inr ⟨o,d⟩)),k.here ra h (by rw[aK];rfl)⟩
 .obtain⟨_,_,rfl,⟨_,rfl⟩,rfl⟩:=rs
  unfold vQ at h;split at h
  .rename_i xs e
   obtain⟨c,h1,b⟩:=ra.lst e;exact .inl ⟨_,c,rfl,.inl (aV.of h1),k.here ra h (by rw[au.length b];rfl)⟩
  .rename_i xs e
   obtain⟨c,h1,b⟩:=ra.dct e;exact .inr (.inr ⟨_,c,rfl,h1,k.here ra h (by rw[RK.length b];rfl)⟩)
  .exact h.elim
 .exact h.elim
@[irreducible] def vV(r:Nat)(A:Ar)(R:DK):Prop:=match A[r]? with
 |some (.lst xs)=>R (.ref A.length) (A++[.lst xs])
 |_=>False
noncomputable def G4:gH:=λvs A R=>match vs with
 |[.tup xs]=>R (.ref A.length) (A++[.lst xs])
 |[.fl ns]=>R (.ref A.length) (A++[.lst (ns.map .int)])
 |[.ref r]=>vV r A R
 |_=>False
theorem EN{mg:aB}{K:Frag}:iy mg (λxs H Q=>∃p ys,xs=[.ref p]/\(aV K H p ys\/bP K H p ys)/\∀l,H l=none->Q (.ref l) (upd H l (.lst ys))) G4:=by
 intro ds A ι H f R Q ra rs h k;unfold G4 at h;split at h
 .obtain⟨_,_,rfl,⟨a,xs,rfl,c,d⟩,rfl⟩:=rs
  exact⟨a,xs,rfl,.inr (bP.of c),λp b=>jT k ra d h b⟩
 .obtain⟨_,_,rfl,⟨a,o,rfl,c⟩,rfl⟩:=rs
  exact⟨a,_,rfl,.inl (.inl (.inr ⟨o,c⟩)),λp b=>jT k ra (au.ints _) h b⟩
 .obtain⟨_,_,rfl,⟨_,rfl⟩,rfl⟩:=rs
  unfold vV at h;split at h
  .rename_i xs e
   obtain⟨f,h1,d⟩:=ra.lst e;exact⟨_,f,rfl,.inl (aV.of h1),λp b=>jT k ra d h b⟩
  .exact h.elim
 .exact h.elim
@[irreducible] def xV(r:Nat)(A:Ar)(R:DK):Prop:=match A[r]? with
 |some (.lst xs)=>R (.tup xs) A
 |_=>False
noncomputable def KA:gH:=λvs A R=>match vs with
 |[.tup xs]=>R (.tup xs) A
 |[.ref r]=>xV r A R
 |_=>False
theorem rQ{mg:aB}{K:Frag}:iy mg (λxs H Q=>∃p ys,xs=[.ref p]/\((aV K H p ys/\∀l,H l=none->Q (.ref l) (upd H l (.tup ys)))\/(bP K H p ys/\Q (.ref p) H))) KA:=by
 intro ds A ι H c R Q ra rs h k;unfold KA at h;split at h
 .obtain⟨_,_,rfl,⟨a,xs,rfl,d,b⟩,rfl⟩:=rs
  exact⟨a,xs,rfl,.inr ⟨bP.of d,k.here ra h ⟨a,xs,rfl,d,b⟩⟩⟩
 .obtain⟨_,_,rfl,⟨_,rfl⟩,rfl⟩:=rs
  unfold xV at h;split at h
  .rename_i xs e
   obtain⟨c,h1,b⟩:=ra.lst e;exact⟨_,c,rfl,.inl ⟨aV.of h1,λp f=>v_ k ra b h f⟩⟩
  .exact h.elim
 .exact h.elim
noncomputable def maxD:gH:=λvs A R=>match vs with
 |[.int i,.int j]=>R (.int (if j>i then j else i)) A
 |_=>False
theorem M9{mg:aB}:iy mg (λxs H Q=>∃i j,xs=[.int i,.int j]/\Q (.int (if j>i then j else i)) H) maxD:=by
 intro ds A ι H a R Q ra rs h k;unfold maxD at h;split at h
 .obtain⟨_,_,rfl,rfl,_,_,rfl,rfl,rfl⟩:=rs
  exact⟨_,_,rfl,k.here ra h rfl⟩
 .exact h.elim
noncomputable def jn:List D->Option (List Bool)
 |[]=>some []
 |.bl b::r=>(jn r).map (b::·)
 |_::_=>none
noncomputable def iW:List D->Option (List Int)
 |[]=>some []
 |.int b::r=>(iW r).map (b::·)
 |_::_=>none
theorem zC{mg:aB}{ι:Io}{n:Nat}{H:Hp}:∀{ds:List D} {a:List V} {bs:List Bool},jn ds=some bs->au mg ι n H ds a->a=bs.map V.bl
 |[],a,bs,h,r=>by cases h;exact r
 |d::ds,a,bs,h,r=>by
  obtain⟨x,r',rfl,h1,h2⟩:=r;cases d with
  |bl b=>
   cases q:jn ds with
   |none=>simp[jn,q] at h
   |some l=>
    simp[jn,q] at h;subst h;rw[zC q h2];cases h1;rfl
  |_=>simp[jn] at h
theorem vL{mg:aB}{ι:Io}{n:Nat}{H:Hp}:∀{ds:List D} {a:List V} {bs:List Int},iW ds=some bs->au mg ι n H ds a->a=bs.map V.int
 |[],a,bs,h,r=>by cases h;exact r
 |d::ds,a,bs,h,r=>by
  obtain⟨x,r',rfl,h1,h2⟩:=r;cases d with
  |int b=>
   cases q:iW ds with
   |none=>simp[iW,q] at h
   |some l=>
    simp[iW,q] at h;subst h;rw[vL q h2];cases h1;rfl
  |_=>simp[iW] at h
@[irreducible] def allR(r:Nat)(A:Ar)(R:DK):Prop:=match A[r]? with
 |some (.lst xs)=>(match jn xs with
  |some bs=>R (.bl (bs.all id)) A
  |none=>False)
 |_=>False
noncomputable def DO:gH:=λvs A R=>match vs with
 |[.ref r]=>allR r A R
 |_=>False
theorem u0{mg:aB}{K:Frag}:iy mg (λxs H Q=>∃(p:Addr) (bs:List Bool),xs=[.ref p]/\aV K H p (bs.map V.bl)/\Q (.bl (bs.all id)) H) DO:=by
 intro ds A ι H a R Q ra rs h k;unfold DO at h;split at h
 .obtain⟨_,_,rfl,⟨_,rfl⟩,rfl⟩:=rs
  unfold allR at h;split at h
  .rename_i xs e
   split at h
   .rename_i bs b
    obtain⟨a,h1,c⟩:=ra.lst e;exact⟨_,bs,rfl,aV.of (by rw[h1,zC b c]),k.here ra h rfl⟩
   .exact h.elim
  .exact h.elim
 .exact h.elim
@[irreducible] def xR(r:Nat)(A:Ar)(R:DK):Prop:=match A[r]? with
 |some (.lst xs)=>(match iW xs with
  |some ns=>(∀n∈ns,0<=n/\n<=2 ^ 40)/\ns.length<=1000/\R (.int ns.sum) A
  |none=>False)
 |_=>False
noncomputable def Ks:gH:=λvs A R=>match vs with
 |[.ref r]=>xR r A R
 |_=>False
theorem Nd{mg:aB}{K:Frag}:iy mg (λxs H Q=>∃(p:Addr) (ns:List Int),xs=[.ref p]/\aV K H p (ns.map V.int)/\(∀n∈ns,0<=n/\n<=2 ^ 40)/\ns.length<=1000/\Q (.int ns.sum) H) Ks:=by
 intro ds A ι H a R Q ra rs h k;unfold Ks at h;split at h
 .obtain⟨_,_,rfl,⟨_,rfl⟩,rfl⟩:=rs
  unfold xR at h;split at h
  .rename_i xs e
   split at h
   .rename_i bs b
    obtain⟨a,h1,c⟩:=ra.lst e;exact⟨_,bs,rfl,aV.of (by rw[h1,vL b c]),h.1,h.2.1,k.here ra h.2.2 rfl⟩
   .exact h.elim
  .exact h.elim
 .exact h.elim
noncomputable def m_(A:Ar):D->Option String
 |.aG=>some "NoneType"
 |.bl _=>some "bool"
 |.int _=>some "int"
 |.str _=>some "str"
 |.tup _=>some "tuple"
 |.fl _=>some "list"
 |.exc _=>none
 |.ref r=>match A[r]? with
  |some (.lst _)=>some "list"
  |some (.dct _)=>some "dict"
  |_=>none
noncomputable def lG(t c:String):Bool:=t==c||(t=="bool"&&c=="int")
noncomputable def MO(c:String)(m:aP):aP:=λτ A R=>m τ A λx A1=>match m_ A1 x with
 |some t=>R (.bl (lG t c)) A1
 |none=>False
noncomputable def tys:List String:=["NoneType","bool","int","str","tuple","list","dict"]
theorem YW{A:Ar}{d:D}{t:String}(h:m_ A d=some t):t∈tys:=by
 cases d with
 |ref r=>
  unfold m_ at h;simp only at h;split at h<;>first|(cases h;decide)|cases h
 |exc c=>cases h
 |_=>cases h;decide
theorem RA.ty{mg:aB}{K:Frag}{A:Ar}{ι:Io}{H:Hp}(ra:RA mg ι H A){d:D}{v:V}{t:String}(h:m_ A d=some t)(r:RV mg ι A.length H d v):rq K H v (.type t):=by
 cases d with
 |aG=>cases h;cases r;exact .of .aG
 |bl b=>cases h;cases r;exact .of (.bl b)
 |int b=>cases h;cases r;exact .of (.int b)
 |str b=>cases h;cases r;exact .of (.str b)
 |tup ds=>cases h;obtain⟨a,xs,rfl,e,_⟩:=r;exact .of (.tup e)
 |fl ns=>cases h;obtain⟨a,o,rfl,e⟩:=r;exact .of (.bT e)
 |exc c=>cases h
 |ref q=>
  obtain⟨_,rfl⟩:=r;unfold m_ at h;simp only at h;split at h
  .rename_i xs e
   cases h;obtain⟨f,h1,_⟩:=ra.lst e;exact .of (.lst h1)
  .rename_i xs e
   cases h;obtain⟨f,h1,_⟩:=ra.dct e;exact .of (.dK h1)
  .cases h
section
variable{X:Cx}{N:En}{e:Expr}{es:List Expr}{m:aP}{p p2 pos:Pos}{x:Str}{c:String}
theorem kr(n:∀t∈tys,kitOne X.K (.type t) (.type c)=some (lG t c))(o:X.mg "isinstance"=none)(b:X.mg x=none)(d:bootBuiltins x=some (.type c))(r:PE X e (up X.mg N m))(s:Gl X "isinstance":=by rfl)(f:Gl X x:=by rfl)(w:x≠"__name__":=by decide)(g:(x==("__debug__":Str))=false:=by decide)
  (h:starEach [e,.Name x p2] X.env=[(false,eval e X.env),(false,eval (.Name x p2) X.env)]:=by rfl):
  PE X (.Call (.Name "isinstance" p) [e,.Name x p2] [] pos) (up X.mg N (MO c m)):=by
 have y:PE X (.Name x p2) (tC (.ty c)):=Ut f b d rfl w g;refine dJ (HM Mb s o boot_isinstance (AY r (AY y HF rfl) (by rw[h];rfl)) δ δ (by rw[h];rfl) rfl) λσ H Q q=>?_;obtain⟨A,ι,τ,R,S,q,k⟩:=q;refine⟨A,ι,τ,_,S,q,λv i z H1 u a B j C=>?_⟩;have a:(match m_ i v with|some t=>R (.bl (lG t c)) i|none=>False):=a;split at a
 .rename_i t l
  exact⟨u,c,.type t,lG t c,rfl,j.ty l C,n t (YW l),(k.from B).here j a rfl⟩
 .exact a.elim
end
abbrev mh:=D->List D->Ar->DK->Prop
def q_(mg:aB)(K:Frag)(T:String)(r:V->List V->Hp->VK->Prop)(f:mh):Prop:=∀x ds A ι H u us R Q,RA mg ι H A->RV mg ι A.length H x u->au mg ι A.length H ds us->f x ds A R->Kt mg A ι H R Q->r u us H Q
noncomputable def nV(A:Ar):D->Bool
 |.ref r=>match A[r]? with
  |some (.lst _)=>true
  |_=>false
 |_=>false
noncomputable def EG(f:mh)(mo:aP)(m:dw):aP:=λτ A R=>mo τ A λx A1=>nV A1 x=true/\m τ A1 λvs A2=>f x vs A2 R
theorem RA.nV{mg:aB}{K:Frag}{A:Ar}{ι:Io}{H:Hp}(ra:RA mg ι H A){d:D}{v:V}(h:nV A d=true)(r:RV mg ι A.length H d v):BZ K "list" v H:=by
 cases d with
 |ref q=>
  obtain⟨_,rfl⟩:=r;unfold DP.nV at h;simp only at h;split at h
  .rename_i xs e
   obtain⟨a,h1,_⟩:=ra.lst e;exact .inl ⟨rfl,a,aV.of h1⟩
  .cases h
 |_=>cases h
section
variable{X:Cx}{N:En}{e o:Expr}{es:List Expr}{mo:aP}{m:dw}{apos cpos:Pos}{f:mh}{r:V->List V->Hp->VK->Prop}{name:Str}{id:String}
theorem gM(t:PlainAttrs "list")(slot:Slot "list" name id)(g:typeOf (.builtin id)=pure (.type "method_descriptor"))(v:yW X id r)(hd:q_ X.mg X.K "list" r f)(w:PE X o (up X.mg N mo))(y:PA X (e::es) (fO X.mg N m))
  (b:attributeBase o name X.env (eval o X.env)=eval o X.env:=by rfl)
  (d:((backTo cpos (starEach (e::es) X.env)).all (λx=> !x.1)&&(backToKw cpos (keywordEach [] X.env)).all (λx=>x.1.isSome)
   &&decide ((e::es).length+([]:List Keyword).length+(if ([]:List Keyword).isEmpty then 0 else 1)<30))=true:=by rfl)
  (c:(apos.endLine==cpos.line)=true:=by rfl)(z:starEach (e::es) X.env=(false,eval e X.env)::starEach es X.env:=by rfl)(a:(backTo cpos (starEach es X.env)).any (·.1)=false:=by rfl):
  PE X (.Call (.Attribute o name apos) (e::es) [] cpos) (up X.mg N (EG f mo m)):=dJ (HL t slot g v w y b d c z a) λσ H Q q=>by
 obtain⟨A,ι,τ,R,S,q,k⟩:=q
 refine⟨A,ι,τ,_,S,q,λx B h H1 u j l n p=> ?_⟩
 refine⟨n.nV j.1 p,B,h,τ,_,S.next l n,j.2,λys C i H2 D E s F v2=> ?_⟩
 exact hd x ys C i H2 u D R Q F (RV.ext s x u p) v2 E (k.from (l.trans s))
end
theorem HZ{mg:aB}{A:Ar}{ι:Io}{H:Hp}{R:DK}{Q:VK}{ds es:List D}{xs ys:List V}{q:Nat}{d:D}{v:V}(k:Kt mg A ι H R Q)(r:RA mg ι H A)(a:A[q]?=some (.lst ds))(b:H (ι q)=some (.lst xs))(h:au mg ι A.length H es ys)
  (c:R d (A.set q (.lst es)))(hd:∀H',RV mg ι A.length H' d v):Q v (upd H (ι q) (.lst ys)):=by
 have E:Ext A ι H (A.set q (.lst es)) ι (upd H (ι q) (.lst ys)):=r.nP (bY.mp a).1;obtain⟨e,f⟩:=r.put (c':=.lst es) (o:=.lst ys) a b rfl ⟨ys,fh,by simpa using au.ext E es ys h⟩;exact k _ _ _ _ _ c f e (by simpa using hd _)
@[irreducible] def uP(r:Nat)(y:D)(A:Ar)(R:DK):Prop:=match A[r]? with
 |some (.lst xs)=>xs.length<sizeLine/\R .aG (A.set r (.lst (xs++[y])))
 |_=>False
noncomputable def zx:mh:=λx vs A R=>match x,vs with
 |.ref r,[y]=>uP r y A R
 |_,_=>False
theorem jq{mg:aB}{K:Frag}:q_ mg K "list" H9 zx:=by
 intro x ds A ι H u d R Q ra b rs h k;unfold zx at h;split at h
 .obtain⟨_,rfl⟩:=b
  obtain⟨v,_,rfl,c,rfl⟩:=rs;unfold uP at h;split at h
  .rename_i xs e
   obtain⟨ws,h1,a⟩:=ra.lst e;exact⟨_,ws,v,rfl,rfl,h1,by rw[<-au.length a];exact h.1,HZ k ra e h1 (a.app (es:=[_]) (ws:=[v]) ⟨v,[],rfl,c,rfl⟩) h.2 λ_=>rfl⟩
  .exact h.elim
 .exact h.elim
@[irreducible] def rX(r q:Nat)(A:Ar)(R:DK):Prop:=match A[r]?,A[q]? with
 |some (.lst xs),some (.lst ys)=>xs.length+ys.length<=sizeLine/\R .aG (A.set r (.lst (xs++ys)))
 |_,_=>False
noncomputable def FD:mh:=λx vs A R=>match x,vs with
 |.ref r,[.ref q]=>rX r q A R
 |_,_=>False
theorem u5{mg:aB}{K:Frag}:q_ mg K "list" Ib FD:=by
 intro x ds A ι H u f R Q ra c rs h k;unfold FD at h;split at h
 .obtain⟨_,rfl⟩:=c
  obtain⟨v,_,rfl,⟨_,rfl⟩,rfl⟩:=rs;unfold rX at h;split at h
  .rename_i xs ys e d
   obtain⟨ws,h1,a⟩:=ra.lst e;obtain⟨zs,h2,b⟩:=ra.lst d;exact⟨_,_,ws,zs,rfl,rfl,h1,h2,by rw[<-au.length a,<-au.length b];exact h.1,HZ k ra e h1 (a.app b) h.2 λ_=>rfl⟩
  .exact h.elim
 .exact h.elim
noncomputable def Wk(RE:DX)(c:Str)(m:dw):dF:=λ_ τ A=>m τ A λvs A1=>vs.length<=sizeLine/\RE c A1
theorem jr{X:Cx}{N:En}{RE:DX}{x:Str}{C:Addr}{e:Expr}{m:dw}{np cpos pos:Pos}(f:Raises X (EL X.mg N RE))(hc:X.calm=true)(c:X.mg x=some (.ref C))(g:excIn X.K C jW "ValueError.__new__"=true)(h:PA X [e] (fO X.mg N m))(i:Gl X x:=by rfl)(a:(x==("__debug__":Str))=false:=by decide)
  (j:starEach [e] X.env=[(false,eval e X.env)]:=by rfl):PS X (.Raise (some (.Call (.Name x np) [e] [] cpos)) none pos) (dj X.mg N (Wk RE x m)):=iT (Vt f hc c g h i a j) λQ σ H q=>by
 obtain⟨A,ι,τ,R,S,q,k⟩:=q;exact⟨A,ι,τ,_,S,q,λvs l b H1 r d n o p=>⟨by rw[<-au.length p];exact d.1,x,l,b,⟨C,rfl,c⟩,S.ex.trans n,o,d.2⟩⟩
noncomputable def iU:D->Bool
 |.int _|.str _=>true
 |_=>false
noncomputable def rW:D->D->Bool
 |.int i,.int j=>decide (i=j)
 |.str a,.str b=>decide (a=b)
 |_,_=>false
noncomputable def lF(x:D)(xs:List D):Bool:=xs.any λy=>rW y x
section
variable{mg:aB}{K:Frag}{A:Ar}{ι:Io}{H:Hp}{n:Nat}
theorem z5{d:D}{v:V}(h:iU d=true)(r:RV mg ι n H d v):kC v=true:=by
 cases d with
 |int i=>cases r;rfl
 |str i=>cases r;rfl
 |_=>cases h
theorem N8{d e:D}{u v:V}(h1:iU d=true)(h2:iU e=true)(b:RV mg ι n H d u)(a:RV mg ι n H e v):jt u v=rW d e:=by
 cases d with
 |int i=>
  cases b;cases e with
  |int j=>cases a;simp[jt,rW,Bool.beq_eq_decide_eq]
  |str j=>cases a;rfl
  |_=>cases h2
 |str i=>
  cases b;cases e with
  |int j=>cases a;rfl
  |str j=>cases a;simp[jt,rW,Bool.beq_eq_decide_eq]
  |_=>cases h2
 |_=>cases h1
theorem Au{x:D}{v:V}(a:iU x=true)(b:RV mg ι n H x v):∀{ds:List D} {vs:List V},ds.all iU=true->au mg ι n H ds vs->vI v vs=lF x ds/\vs.all kC=true
 |[],vs,_,r=>by cases (show vs=[] from r);exact⟨rfl,rfl⟩
 |d::ds,vs,h,r=>by
  obtain⟨y,r',rfl,h1,h2⟩:=r;have h':iU d=true/\ds.all iU=true:=by simpa using h
  obtain⟨c,e⟩:=Au a b h'.2 h2;constructor
  .show(jt y v||vI v r')=(rW d x||lF x ds)
   rw[N8 h'.1 a h1 b,c]
  .simp[z5 h'.1 h1,e]
end
abbrev s9(neg:Bool):R2:=λx y H Q=>∃a o,y=.ref a/\o8 H a x o/\Q (.bl (if neg then !o.isSome else o.isSome)) H
theorem wh{X:Cx}(e:X.A.units+64<cLine):bL X (compareOp .In) (s9 false):=by
 intro pins s σ H x y v u Q I b c h;obtain⟨a,o,rfl,g,q⟩:=h;cases c;exact M6 ω I g b λf d=>⟨.bl o.isSome,H,d,rfl,q⟩
theorem TF{X:Cx}(e:X.A.units+64<cLine):bL X (compareOp .NotIn) (s9 true):=by
 intro pins s σ H x y v u Q I b c h;obtain⟨a,o,rfl,g,q⟩:=h;cases c;exact Na ω I g b λf d=>⟨.bl (!o.isSome),H,d,rfl,q⟩
@[irreducible] def inR(neg:Bool)(x:D)(r:Nat)(A:Ar)(R:DK):Prop:=match A[r]? with
 |some (.lst xs)=>iU x=true/\xs.all iU=true/\R (.bl (if neg then !lF x xs else lF x xs)) A
 |some (.dct kvs)=>(match gc x with
  |some k=>R (.bl (if neg then !(br kvs k).isSome else (br kvs k).isSome)) A
  |none=>False)
 |_=>False
noncomputable def inD(neg:Bool):fk:=λx y A R=>match y with
 |.tup xs=>iU x=true/\xs.all iU=true/\R (.bl (if neg then !lF x xs else lF x xs)) A
 |.ref r=>inR neg x r A R
 |_=>False
theorem zL{mg:aB}{K:Frag}(neg:Bool):eW mg (λx y H Q=>Bo K neg x y H Q\/s9 neg x y H Q) (inD neg):=by
 intro x y A ι H u v R Q ra c l h k;unfold inD at h;split at h
 .obtain⟨a,xs,rfl,m,f⟩:=l
  obtain⟨g,i⟩:=Au h.1 c h.2.1 f;exact .inl ⟨a,xs,rfl,.inr (bP.of m),z5 h.1 c,i,by rw[g];exact k.here ra h.2.2 rfl⟩
 .obtain⟨_,rfl⟩:=l
  unfold inR at h;split at h
  .rename_i xs e
   obtain⟨j,h1,f⟩:=ra.lst e;obtain⟨g,i⟩:=Au h.1 c h.2.1 f;exact .inl ⟨_,j,rfl,.inl (aV.of h1),z5 h.1 c,i,by rw[g];exact k.here ra h.2.2 rfl⟩
  .rename_i kvs e
   obtain⟨j,h1,f⟩:=ra.dct e;split at h
   .rename_i b n
    cases nX n c;obtain⟨g,i⟩:=RK.get (k:=b) f;refine .inr ⟨_,fB j b,rfl,.inl ⟨j,b,.inl h1,rfl,rfl⟩,?_⟩;have o:(fB j b).isSome=(br kvs b).isSome:=by
     cases q:br kvs b with
     |none=>rw[i q];rfl
     |some d=>obtain⟨z,hz,_⟩:=g d q;rw[hz];rfl
    rw[o];exact k.here ra h rfl
   .exact h.elim
  .exact h.elim
 .exact h.elim
section
variable{X:Cx}{N:En}{pos:Pos}{a b c:Expr}{ma mb mc:aP}{x:Str}
theorem vr(i:Nat)(b:X.N[i]?=some x:=by rfl)(c:pC X.env.scope x:=by first|exact Or.inl rfl|exact Or.inr (Or.inl rfl)|exact Or.inr (Or.inr rfl))(hd:(x==("__debug__":Str))=false:=by decide)
 (a:(x==("__classdict__":Str))=false:=by decide):PE X (.Name x pos) (up X.mg N (h_ i)):=Np b c hd a
theorem zY(c:X.A.units+64<cLine)(d:PE X a (up X.mg N ma))(e:PE X b (up X.mg N mb)):PE X (.Compare a [.Eq] [b] pos) (up X.mg N (dO vz ma mb)):=vc (Hz c) EJ d e (mW _)
theorem d_(c:X.A.units+64<cLine)(d:PE X a (up X.mg N ma))(e:PE X b (up X.mg N mb)):PT X (.Compare a [.Eq] [b] pos) (cW X.mg N (g_ (dO vz ma mb))):=lC (Hz c) EJ d e (mW _)
theorem NU(c:X.A.units+64<cLine)(d:PE X a (up X.mg N ma))(e:PE X b (up X.mg N mb)):PE X (.Compare a [.NotEq] [b] pos) (up X.mg N (dO v8 ma mb)):=vc (HA c) EO d e (mW _)
theorem jV(c:X.A.units+64<cLine)(d:PE X a (up X.mg N ma))(e:PE X b (up X.mg N mb)):PT X (.Compare a [.NotEq] [b] pos) (cW X.mg N (g_ (dO v8 ma mb))):=lC (HA c) EO d e (mW _)
theorem BU(c:PE X a (up X.mg N ma))(d:PE X b (up X.mg N mb)):PT X (.Compare a [.Lt] [b] pos) (cW X.mg N (g_ (dO AK ma mb))):=lC Tz M8 c d (mW _)
theorem YF(c:PE X a (up X.mg N ma))(d:PE X b (up X.mg N mb)):PT X (.Compare a [.LtE] [b] pos) (cW X.mg N (g_ (dO nZ ma mb))):=lC sI rP c d (mW _)
theorem BR(c:PE X a (up X.mg N ma))(d:PE X b (up X.mg N mb)):PT X (.Compare a [.Gt] [b] pos) (cW X.mg N (g_ (dO Gb ma mb))):=lC T7 M5 c d (mW _)
theorem qk(c:PE X a (up X.mg N ma))(d:PE X b (up X.mg N mb)):PT X (.Compare a [.IsNot] [b] pos) (cW X.mg N (g_ (dO AV ma mb))):=lC Uh Nb c d (mW _)
theorem NS(c:X.A.units+64<cLine)(d:PE X a (up X.mg N ma))(e:PE X b (up X.mg N mb))(f:behindInMarks .In b=false:=by rfl):PE X (.Compare a [.In] [b] pos) (up X.mg N (dO (inD false) ma mb)):=vc (HE.or (wh c)) (zL false) d e f
theorem xT(c:X.A.units+64<cLine)(d:PE X a (up X.mg N ma))(e:PE X b (up X.mg N mb))(f:behindInMarks .In b=false:=by rfl):PT X (.Compare a [.In] [b] pos) (cW X.mg N (g_ (dO (inD false) ma mb))):=lC (HE.or (wh c)) (zL false) d e f
theorem ql(c:X.A.units+64<cLine)(d:PE X a (up X.mg N ma))(e:PE X b (up X.mg N mb))(f:behindInMarks .NotIn b=false:=by rfl):PT X (.Compare a [.NotIn] [b] pos) (cW X.mg N (g_ (dO (inD true) ma mb))):=lC (Ug.or (TF c)) (zL true) d e f
theorem Fq(d:PE X a (up X.mg N ma))(e:PE X b (up X.mg N mb))(hc:PE X c (up X.mg N mc))(f:lastMarks [.LtE,.LtE] [b,c]=false:=by with_unfolding_all rfl):PE X (.Compare a [.LtE,.LtE] [b,c] pos) (up X.mg N (rN nZ nZ ma mb mc)):=Ng sI sI rP rP d e hc f
theorem BS(d:PE X a (up X.mg N ma))(e:PE X b (up X.mg N mb))(hc:PE X c (up X.mg N mc))(f:lastMarks [.LtE,.LtE] [b,c]=false:=by with_unfolding_all rfl):PT X (.Compare a [.LtE,.LtE] [b,c] pos) (cW X.mg N (g_ (rN nZ nZ ma mb mc))):=NO sI sI rP rP d e hc f
end
theorem jQ{P:Program}{w:World}{K:Frag}{mg:aB}{base:Heap}{x:Str}{st:Stmt}{Nm ps:List Str}{k n:Nat}{S:Ct}(T:TopD K mg x st ps)(Sc:aW Nm ps (aI st))(c:ps.length=n)(d:ps.length<=Nm.length)
  (b:∀(N:En) (RE:DX) (f:Addr) (a:Value) (B:Around) (outer:List Env) (s:Shared) (H:Hp) (E:XK),dW k (cZ (bV P w) P w K mg base Nm x (aI st) f a B outer s H E).A->
   Raises (cZ (bV P w) P w K mg base Nm x (aI st) f a B outer s H E) (EL mg N RE)->Passes (bV P w) (cZ (bV P w) P w K mg base Nm x (aI st) f a B outer s H E) (EL mg N RE)->
   ∀ds A R,S ds A R RE->ds.length=n->∃m,dU (cZ (bV P w) P w K mg base Nm x (aI st) f a B outer s H E) (iD st) (dj mg N m)/\m {nx:=λ_ A'=>R .aG A',rt:=R} (lO (Nm.length - n) ds) A):aj P w K mg base (k+1) x ps (ak mg n S):=by
 refine TopD.jQ T Sc c d λN RE X _ _ _ _ _ _ _ _ e g i j ds A R h l=>?_;obtain⟨f,a,B,outer,s,H,E,rfl⟩:=e;exact b N RE f a B outer s H E g i j ds A R h l
noncomputable def Wm(c:eU)(b:dF):dF:=λR τ A=>∃W:Nat->bO->Ar->Prop,(∃n,W n τ A)/\∀n τ A,W n τ A->c τ A λk A1=>cond k (∃Nx:bO->Ar->Prop,(∀bx A',Nx bx A'->∃n',n'<n/\W n' bx A')/\b {R with nx:=Nx,ct:=Nx,bk:=R.nx} τ A1) (R.nx τ A1)
section
variable{X:Cx}{N:En}{pos:Pos}{c:Expr}{body:List Stmt}{tc:eU}{tb:dF}
theorem zX(y:PassesOwn (model X.prog X.w) X.A X.env X.xe)(hc:PT X c (cW X.mg N tc))(B:dU X body (dj X.mg N tb)):PS X (.While c body [] pos) (dj X.mg N (Wm tc tb)):=iT (Vw y hc B) λQ σ H q=>by
 obtain⟨A,ι,τ,R,S,⟨W,⟨n,C⟩,turn⟩,k⟩:=q;refine⟨λn σ' H'=>∃A' ι' bx,dH X.mg N A' ι' bx σ' H'/\Ext A ι H A' ι' H'/\W n bx A',⟨n,A,ι,τ,S,S.ra.refl,C⟩,?_⟩;rintro m D H1 ⟨x,o,d,g,h,E⟩;refine⟨x,o,d,_,g,turn m d x E,λb F p H2 j a l=>?_⟩;cases b with
 |true=>
  rw[aA rfl];obtain⟨G,I,j⟩:=j;refine⟨λσ' H'=>∃A' ι' bx,dH X.mg N A' ι' bx σ' H'/\Ext A ι H A' ι' H'/\G bx A',λσ' H' ⟨A',ι',bx,J,K,z⟩=>?_,?_⟩
  .obtain⟨L,M,O⟩:=I bx A' z
   exact⟨L,M,A',ι',bx,J,K,O⟩
  .refine⟨F,p,d,_,g.next a l,j,⟨?_,k.rt.from (h.trans a),k.nx.from (h.trans a),?_⟩⟩
   .exact λe r f s P t i u v=>⟨r,f,e,(g.next a l).to i u v,(h.trans a).trans i,t⟩
   .exact λe r f s P t i u v=>⟨r,f,e,(g.next a l).to i u v,(h.trans a).trans i,t⟩
 |false=>
  rw[ao bU];exact(k.nx.from (h.trans a)).here (g.next a l) j
end
structure k9(mg:aB)(A0:Ar)(KU:Io)(H0:Hp)(J:It)(items:List D)(fX:Ar->Prop):Prop where
 go:∀(i:Nat) d A ι H,items[i]? =some d->Ext A0 KU H0 A ι H->RA mg ι H A->fX A->J.go i H/\∀x H',J.x_ i H x H'->Ext A ι H A ι H'/\RA mg ι H' A/\RV mg ι A.length H' d x
 stop:∀A ι H,Ext A0 KU H0 A ι H->RA mg ι H A->fX A->J.stop items.length H
abbrev jj:=bO->Ar->(List D->(Ar->Prop)->Ar->Prop)->Prop
noncomputable def jz(mg:aB)(N:En)(m:jj):TI:=λσ H Q=>∃A ι τ R,dH mg N A ι τ σ H/\m τ A R/\∀items fX A' ι' H' J,R items fX A'->Ext A ι H A' ι' H'->RA mg ι' H' A'->k9 mg A' ι' H' J items fX->Q J H'
theorem pM{X:Cx}{tg e:Expr}{t t':TI}(h:PI X tg e t)(w:∀σ H Q,t' σ H Q->t σ H Q):PI X tg e t':=λpins s σ H Q I q=>h pins s σ H Q I (w σ H Q q)
section
variable{mg:aB}{K:Frag}{A:Ar}{ι:Io}{H:Hp}
theorem RB{a:Addr}{ds:List D}{xs:List V}(f:H a=some (.tup xs))(g:au mg ι A.length H ds xs):k9 mg A ι H (yT K a) ds (λ_=>True) where
 go:=λi d h c H1 hd e r _=>by
  have b:=e.fix rfl f;obtain⟨v,h1,h2⟩:=au.get (au.ext e ds xs g) hd;refine⟨⟨xs,v,bP.of b,h1⟩,λx H' y=>?_⟩;obtain⟨rfl,y⟩:=y;have:=y xs (bP.of b);rw[h1] at this;cases this;exact⟨r.refl,r,h2⟩
 stop:=λh c H1 e r _=>⟨xs,bP.of (e.fix rfl f),by rw[au.length g];exact aF _⟩
theorem Ru{a:Addr}{o:Obj}{ns:List Int}(f:H a=some (.bT o (.lst (ns.map V.int)))):k9 mg A ι H (uE K a) (ns.map D.int) (λ_=>True) where
 go:=λi d g b H1 hd e r _=>by
  have c:aV K H1 a (ns.map V.int):=.inl (.inr ⟨o,e.fix rfl f⟩);obtain⟨v,h1,h2⟩:=au.get (au.ints (mg:=mg) (ι:=b) (H:=H1) ns (n:=g.length)) hd;refine⟨⟨_,v,c,h1⟩,λx H' y=>?_⟩;obtain⟨rfl,y⟩:=y;have:=y _ c;rw[h1] at this;cases this;exact⟨r.refl,r,h2⟩
 stop:=λg b H1 e r _=>⟨_,.inl (.inr ⟨o,e.fix rfl f⟩),θ⟩
theorem Rw{q:Nat}{ds:List D}(b:q<A.length):k9 mg A ι H (uE K (ι q)) ds (λA'=>A'[q]?=some (.lst ds)) where
 go:=λi d f a H1 hd e r hc=>by
  obtain⟨xs,h1,h2⟩:=r.lst hc;rw[e.ag q b] at h1;obtain⟨v,c,g⟩:=au.get h2 hd;refine⟨⟨xs,v,aV.of h1,c⟩,λx H' y=>?_⟩;obtain⟨rfl,y⟩:=y;have:=y xs (aV.of h1);rw[c] at this;cases this;exact⟨r.refl,r,g⟩
 stop:=λf a H1 e r hc=>by
  obtain⟨xs,h1,h2⟩:=r.lst hc;rw[e.ag q b] at h1;exact⟨xs,aV.of h1,by rw[au.length h2];exact aF _⟩
noncomputable def fK(lo:Int)(n:Nat):List D:=(range n).map λ(i:Nat)=>D.int (lo+i)
theorem Ry{lo:Int}{n:Nat}:k9 mg A ι H (uF lo n) (fK lo n) (λ_=>True) where
 go:=λi d c a H1 hd e r _=>by
  unfold fK at hd;rw[ck] at hd;cases q:(range n)[i]? with
  |none=>rw[q] at hd;cases hd
  |some j=>
   rw[q] at hd;have hi:=(bY.mp q).1;have b:=(bY.mp q).2;simp at hi b;subst b;cases hd;refine⟨hi,λx H' y=>?_⟩;obtain⟨rfl,rfl⟩:=y;exact⟨r.refl,r,rfl⟩
 stop:=λc a H1 e r _=>by
  show n<=_;simp[fK]
noncomputable def lM(z:Str):List D:=z.cps.toList.map λc=>D.str ⟨#[c]⟩
theorem Rz{z:Str}:k9 mg A ι H (yS z) (lM z) (λ_=>True) where
 go:=λi d b a H1 hd e r _=>by
  unfold lM at hd;rw[ck] at hd;cases q:z.cps.toList[i]? with
  |none=>rw[q] at hd;cases hd
  |some j=>
   rw[q] at hd;cases hd;have hi:=(bY.mp q).1;refine⟨show i<z.cps.size by simpa using hi,λx H' y=>?_⟩;obtain⟨rfl,c,hc,rfl⟩:=y;have:z.cps.toList[i]?=some c:=by simpa using hc
   rw[q] at this;cases this;exact⟨r.refl,r,rfl⟩
 stop:=λb a H1 e r _=>by
  show _=_;simp[lM]
end
noncomputable def Q5(K:Frag)(tl:TE):TI:=λσ H R=>tl σ H λx H1=>(∃a,x=.ref a/\(∃xs,aV K H1 a xs)/\R (uE K a) H1)\/(∃a,x=.ref a/\(∃xs,bP K H1 a xs)/\R (yT K a) H1)
theorem U3{X:Cx}{tg l:Expr}{tl:TE}(j:PE X l tl):PI X tg l (Q5 X.K tl):=by
 intro pins s σ H R I h;refine aJ (j pins s σ H _ I h) λv c ⟨x,H1,d,i,k⟩=>?_;rcases k with⟨a,e,⟨xs,f⟩,q⟩|⟨a,e,⟨xs,f⟩,q⟩
 .subst e
  cases i;obtain⟨its,m,p,hz⟩:=d.list f;refine qG p.isList ?_;refine⟨c.heap.objs.size,[c.heap.objs.size],_,_,H1,rfl,d.kept (t':=c.toks) λb o e=>bu _ e,YR a _,⟨_,cu _ rfl,rfl,rfl⟩,λb g=>?_,q⟩;have e:b=c.heap.objs.size:=by simpa using g
  subst e;exact d.mP (aF _) (d.hok.fresh (aF _))
 .subst e
  cases i;obtain⟨its,m,p,hz⟩:=d.tuple f;refine wpAny_pyIter_tuple (show c.heap.IsTuple a its.toArray from p) ?_;refine⟨c.heap.objs.size,[c.heap.objs.size],_,_,H1,rfl,d.kept (t':=c.toks) λb o e=>bu _ e,YV a _,⟨_,cu _ rfl,rfl,rfl⟩,λb g=>?_,q⟩;have e:b=c.heap.objs.size:=by simpa using g
  subst e;exact d.mP (aF _) (d.hok.fresh (aF _))
@[irreducible] def itR(r:Nat)(A:Ar)(R:List D->(Ar->Prop)->Ar->Prop):Prop:=match A[r]? with
 |some (.lst xs)=>R xs (λA'=>A'[r]?=some (.lst xs)) A
 |_=>False
noncomputable def Q4(m:aP):jj:=λτ A R=>m τ A λx A1=>match x with
 |.tup xs=>R xs (λ_=>True) A1
 |.fl ns=>R (ns.map .int) (λ_=>True) A1
 |.ref r=>itR r A1 R
 |_=>False
noncomputable def Q7(m:aP):jj:=λτ A R=>m τ A λx A1=>match x with
 |.str z=>R (lM z) (λ_=>True) A1
 |_=>False
noncomputable def QZ(n:dw):jj:=λτ A R=>n τ A λvs A1=>match vs with
 |[.int j]=> -(2 ^ 62)<=j/\j<2 ^ 62/\R (fK 0 j.toNat) (λ_=>True) A1
 |_=>False
section
variable{X:Cx}{N:En}{pos p:Pos}{tg e a b:Expr}{m:aP}{n:dw}{nm:Str}{px:Pos}
theorem cA(i:PE X e (up X.mg N m)):PI X tg e (jz X.mg N (Q4 m)):=pM (U3 i) λσ H Q q=>by
 obtain⟨A,ι,τ,R,S,q,k⟩:=q;refine⟨A,ι,τ,_,S,q,λx d c H1 u a g f h=>?_⟩;cases x with
 |tup ds=>
  obtain⟨b,xs,rfl,h1,h2⟩:=h;exact .inr ⟨b,rfl,⟨xs,bP.of h1⟩,k ds _ d c H1 _ a g f (RB h1 h2)⟩
 |fl ns=>
  obtain⟨b,o,rfl,h1⟩:=h;exact .inl ⟨b,rfl,⟨_,.inl (.inr ⟨o,h1⟩)⟩,k _ _ d c H1 _ a g f (Ru h1)⟩
 |ref r=>
  obtain⟨j,rfl⟩:=h;have a:itR r d R:=a;unfold itR at a;split at a
  .rename_i xs e
   obtain⟨l,h1,_⟩:=f.lst e;exact .inl ⟨_,rfl,⟨l,aV.of h1⟩,k _ _ d c H1 _ a g f (Rw j)⟩
  .exact a.elim
 |_=>exact a.elim
theorem Ny(c:PE X e (up X.mg N m)):PI X (.Name nm px) e (jz X.mg N (Q7 m)):=pM (U4 c) λσ H Q q=>by
 obtain⟨A,ι,τ,R,S,q,k⟩:=q;refine⟨A,ι,τ,_,S,q,λx d a H1 u b f g h=>?_⟩;cases x with
 |str z=>exact⟨z,h,k _ _ d a H1 _ b f g Rz⟩
 |_=>exact b.elim
theorem zT(e:X.mg "range"=none)(f:PA X [a] (fO X.mg N n))(g:Gl X "range":=by rfl)(h:starEach [a] X.env=[(false,eval a X.env)]:=by rfl):PI X tg (.Call (.Name "range" p) [a] [] pos) (jz X.mg N (QZ n)):=pM (U0 g e f h) λσ H Q q=>by
 obtain⟨A,ι,τ,R,S,q,k⟩:=q;refine⟨A,ι,τ,_,S,q,λx i c H1 u b l m d=>?_⟩;match x,b,d with
 |[.int j],b,d=>
  obtain⟨_,_,rfl,rfl,rfl⟩:=d;exact⟨j,rfl,b.1,b.2.1,k _ _ i c H1 _ b.2.2 l m Ry⟩
end
noncomputable def nM(fX:Ar->Prop)(g:kc)(b:dF)(R:nE):List D->bO->Ar->Prop
 |[],τ,A=>fX A/\R.nx τ A
 |x::xs,τ,A=>fX A/\g x τ A λCA A1=>b {R with nx:=nM fX g b R xs,ct:=nM fX g b R xs,bk:=R.nx} CA A1
noncomputable def IF(it:jj)(g:kc)(b:dF):dF:=λR τ A=>it τ A λitems fX A1=>nM fX g b R items τ A1
theorem eH{X:Cx}{N:En}{pos:Pos}{tg iter:Expr}{body:List Stmt}{it:jj}{g:kc}{tb:dF}(T:PassesOwn (model X.prog X.w) X.A X.env X.xe)(hc:X.calm=true)(hi:PI X tg iter (jz X.mg N it))(U:PG X tg (tU X.mg N g))(V:dU X body (dj X.mg N tb))
  (W:∀x,foldedSetIterable iter X.env x=pure x:=by intro _;rfl):PS X (.For tg iter body [] pos) (dj X.mg N (IF it g tb)):=iT (Vq T hc hi U V W) λQ σ H q=>by
 obtain⟨A,ι,τ,R,S,q,k⟩:=q;refine⟨A,ι,τ,_,S,q,λitems n v b H1 J Y s O P=>?_⟩;have Z:=S.next s O;refine⟨λi m σ' H'=>m=items.length - i/\i<=items.length/\∃A' ι' bx,dH X.mg N A' ι' bx σ' H'/\Ext v b H1 A' ι' H'/\nM n g tb R (items.drop i) bx A',⟨_,rfl,bQ _,v,b,τ,Z,O.refl,by simpa using Y⟩,?_⟩;rintro i m σ2 H2 ⟨rfl,hi,B,c,C,d,f,h⟩;by_cases D:i<items.length
 .right
  have hd:items.drop i=items[i]::items.drop (i+1):=by rw[lY D]
  rw[hd] at h;obtain⟨o,h⟩:=h;obtain⟨g1,g2⟩:=P.go i items[i] B c H2 (by rw[a_ D]) f d.ra o;refine⟨g1,λσ' H'=>∃A' ι' bx,dH X.mg N A' ι' bx σ' H'/\Ext v b H1 A' ι' H'/\nM n g tb R (items.drop (i+1)) bx A',λσ' H' ⟨A',ι',bx,z⟩=>⟨_,ω,rfl,D,A',ι',bx,z⟩,λx H3 y=>?_⟩;obtain⟨p,t,v3⟩:=g2 x H3 y;refine⟨B,c,C,items[i],_,d.next p t,v3,h,λE A4 F Zm H4 q4 u G s4=>?_⟩;have a:=p.trans u;refine⟨A4,F,E,_,(d.next p t).to u G s4,q4,⟨?_,k.rt.from ((s.trans f).trans a),k.nx.from ((s.trans f).trans a),?_⟩⟩
  .exact λj I l K H5 L r M s5=>⟨I,l,j,((d.next p t).to u G s4).to r M s5,(f.trans a).trans r,L⟩
  .exact λj I l K H5 L r M s5=>⟨I,l,j,((d.next p t).to u G s4).to r M s5,(f.trans a).trans r,L⟩
 .left
  have e:i=items.length:=ω
  subst e;rw[List.drop_length] at h;exact⟨P.stop B c H2 f d.ra h.1,(k.nx.from (s.trans f)).here d h.2⟩
noncomputable def nc:Option Nat->D->Option (List D)
 |none,x=>some [x]
 |some k,.tup ds=>if ds.length=k then some ds else none
 |some _,_=>none
noncomputable def jO(fX:Ar->Prop)(k:Option Nat)(fr:bO)(tt:eU)(te:aP)(R:List D->Ar->Prop):List D->List D->Ar->Prop
 |[],ys,A=>fX A/\R ys A
 |x::xs,ys,A=>fX A/\match nc k x with
  |some vs=>tt (vs.map some++fr) A λb A3=>cond b (te (vs.map some++fr) A3 λy A4=>ys.length<sizeLine/\jO fX k fr tt te R xs (ys++[y]) A4) (jO fX k fr tt te R xs ys A3)
  |none=>False
noncomputable def mG(k:Option Nat)(ix:List Nat)(it:jj)(tt:eU)(te:aP):aP:=λτ A R=>it τ A λitems fX A1=>jO fX k (ix.map (lk τ)) tt te (λys A2=>R (.ref A2.length) (A2++[.lst ys])) items [] A1
noncomputable def r8:Nat->Nat->ko
 |_,0=>FY
 |i,n+1=>FW (pT i) (r8 (i+1) n)
noncomputable def qm(K:Frag):Option Nat->TG
 |none=>pT 0
 |some k=>FZ K k (r8 0 k)
theorem Ga{Q:L2.St->Hp->Prop}{H:Hp}{fs:L2.St}:∀(xs:List V) (dn:L2.St),Q (dn++(xs.map some++fs)) H->r8 dn.length xs.length xs (dn++(replicate xs.length none++fs)) H Q
 |[],dn,h=>⟨rfl,by simpa using h⟩
 |x::r,dn,h=>by
  refine⟨x,r,rfl,?_⟩;show r8 (dn.length+1) r.length r ((dn++(replicate (r.length+1) none++fs)).set dn.length (some x)) H Q;have e:(dn++(replicate (r.length+1) none++fs)).set dn.length (some x)=(dn++[some x])++(replicate r.length none++fs):=by
   rw[List.set_append_right _ _ (aF _)];simp[List.replicate_succ]
  rw[e];have:=Ga r (dn++[some x]) (by simpa using h);simpa using this
theorem GH{fs:L2.St}:∀(xs:L2.St),gZ (replicate xs.length none++fs) (xs++fs)
 |[]=>gZ.refl fs
 |x::r=>.own (GH r)
section
variable{mg:aB}{K:Frag}{A:Ar}{ι:Io}{H:Hp}
theorem YG{k:Option Nat}{d:D}{vs:List D}{x:V}{n:Nat}(b:nc k d=some vs)(r:RV mg ι n H d x):∃xs,au mg ι n H vs xs/\vs.length=k.getD 1/\∀(fs:L2.St) (Q:L2.St->Hp->Prop),Q (xs.map some++fs) H->qm K k x (replicate (k.getD 1) none++fs) H Q:=by
 cases k with
 |none=>
  cases b;exact⟨[x],⟨x,[],rfl,r,rfl⟩,rfl,λfs Q q=>q⟩
 |some k=>
  cases d with
  |tup ds=>
   have b:(if ds.length=k then some ds else none)=some vs:=b;by_cases c:ds.length=k
   .rw[aA c] at b
    cases b;obtain⟨a,xs,rfl,h1,h2⟩:=r;have f:=au.length h2;refine⟨xs,h2,c,λfs Q q=>⟨a,xs,rfl,bP.of h1,by rw[<-f];exact c,?_⟩⟩;have:=Ga (Q:=Q) (H:=H) (fs:=fs) xs [] q;show r8 0 k xs (replicate k none++fs) H Q;have e:k=xs.length:=by rw[<-f,c]
    rw[e];exact this
   .rw[ao c] at b
    cases b
  |_=>cases b
theorem RA.off(R:RA mg ι H A){p:Addr}{o u:HO}(a:∀r,r<A.length->ι r≠p)(d:H p=some u)(e:jx u=true):RA mg ι (upd H p o) A:=
 ⟨λr c h=>CO.ag (aF _) (λ_ _=>rfl) (λb q m z=>by
  rw[bf]
  .exact z
  .rintro rfl
   rw[d] at z;cases z;rw[e] at m;cases m) (λq z=>by rw[bf (a r (bY.mp h).1)];exact z) c (R.iC r c h),R.inj⟩
end
theorem XU{own:List Str}{ix:List Nat}{σ:L2.St}:L2.stC own ix σ=replicate own.length none++ix.map λi=>(σ[i]?).join:=by
 unfold L2.stC;rw[List.map_const']
theorem GW:∀(ds:List D) (fr:bO) (i:Nat) (d:D),lk (ds.map some++fr) i=some d->(ds[i]?=some d)\/(ds.length<=i/\lk fr (i - ds.length)=some d)
 |[],fr,i,d,h=>.inr ⟨bQ _,by simpa using h⟩
 |x::r,fr,0,d,h=>.inl (by simpa[lk] using h)
 |x::r,fr,i+1,d,h=>by
  rcases GW r fr i d (by simpa[lk] using h) with q|⟨a,b⟩
  .exact .inl (by simpa using q)
  .exact .inr ⟨by simpa using a,by simpa using b⟩
theorem RS.block{mg:aB}{ι:Io}{n:Nat}{H:Hp}{τ:bO}{σ:L2.St}{ix:List Nat}{vs:List D}{xs:List V}(r:RS mg ι n H τ σ)(h:au mg ι n H vs xs):RS mg ι n H (vs.map some++ix.map (lk τ)) (xs.map some++ix.map λi=>(σ[i]?).join):=⟨by simp[au.length h],λi d q=>by
 have b:=au.length h;rcases GW vs _ i d q with q|⟨c,a⟩
 .obtain⟨v,h1,h2⟩:=au.get h q
  have hi:=(bY.mp h1).1;exact⟨v,by rw[iu (by simpa using hi),ck,h1];rfl,h2⟩
 .rw[vU,ck] at a
  cases e:ix[i - vs.length]? with
  |none=>rw[e] at a;simp at a
  |some j=>
   rw[e] at a;have a:lk τ j=some d:=by simpa using a
   obtain⟨v,h1,h2⟩:=r.at' j d a;refine⟨v,?_,h2⟩;rw[qQ (by simpa[<-b] using c),ck,aK,<-b,e];simp[h1]⟩
section
variable{X:Cx}{N:En}{own frees:List Str}{ix:List Nat}{it:jj}{tt:eU}{te:aP}{k:Option Nat}
theorem xY(hk:own.length=k.getD 1){tT:CP->TT}(hT:∀c σ H Q,cW X.mg N tt σ H Q->tT c σ H Q){σ:L2.St}{H:Hp}{Q:VK}(q:up X.mg N (mG k ix it tt te) σ H Q):BO own ix (jz X.mg N it) (λ_=>qm X.K k) tT (λ_=>up X.mg N te) σ H Q:=by
 obtain⟨A,ι,τ,R,S,q,kq⟩:=q;refine⟨A,ι,τ,_,S,q,λitems W A1 F H1 J q1 e1 r1 j1 c acc f=>?_⟩;have S1:=S.next e1 r1;rw[XU,hk];have Y:∀r,r<A1.length->F r≠acc:=λr n z=>by
  obtain⟨o,h1,_⟩:=r1.im r n;rw[z,f] at h1;cases h1
 have rn:=r1.vA (o:=.lst []) f;refine⟨λi m ys H'=>m=items.length - i/\i<=items.length/\∃A' ι' d,RA X.mg ι' H' A'/\Ext A1 F H1 A' ι' H'/\(∀r,r<A'.length->ι' r≠acc)/\H' acc=some (.lst ys)/\au X.mg ι' A'.length H' d ys/\jO W k (ix.map (lk τ)) tt te (λys a=>R (.ref a.length) (a++[.lst ys])) (items.drop i) d A',
  ⟨_,rfl,bQ _,A1,F,[],r1.fix rn (λb o z=>by rw[bf (dh z f)];exact z),rn,Y,fh,rfl,by simpa using q1⟩,?_⟩
 rintro i m ys H2 ⟨rfl,hi,a,g,d,r2,D,l,hy,ry,E⟩;refine⟨hy,?_⟩;by_cases G:i<items.length
 .right
  have hd:items.drop i=items[i]::items.drop (i+1):=by rw[lY G]
  rw[hd] at E;obtain⟨t,E⟩:=E;obtain⟨g1,g2⟩:=j1.go i items[i] a g H2 (by rw[a_ G]) D r2 t;refine⟨g1,λO H'=>∃A' ι' L,RA X.mg ι' H' A'/\Ext A1 F H1 A' ι' H'/\(∀r,r<A'.length->ι' r≠acc)/\H' acc=some (.lst O)/\au X.mg ι' A'.length H' L O/\jO W k (ix.map (lk τ)) tt te (λys a=>R (.ref a.length) (a++[.lst ys])) (items.drop (i+1)) L A',λO H' z=>⟨_,ω,rfl,G,z⟩,λx H3 y=>?_⟩;obtain⟨e3,r3,v3⟩:=g2 x H3 y;split at E
  .rename_i vs hu
   obtain⟨xs,h1,h2,h3⟩:=YG (K:=X.K) hu v3;refine h3 _ _ ⟨by have:=GH (fs:=ix.map λi=>(σ[i]?).join) (xs.map some);rw[aK,<-au.length h1,h2] at this;exact this,?_⟩;have I:=D.trans e3;have S3:dH X.mg N a g (vs.map some++ix.map (lk τ)) (xs.map some++ix.map λi=>(σ[i]?).join) H3:=⟨r3,RS.block (S1.rs.ext I) h1,S1.ex.trans I⟩;have Z:H3 acc=some (.lst ys):=e3.mo acc _ hy l;refine hT _ _ _ _ ⟨a,g,_,_,S3,E,λb A4 P H4 q4 T r4=>?_⟩;have w:∀r,r<A4.length->P r≠acc:=λr n z=>by
    by_cases G:r<a.length
    .rw[T.ag r G] at z;exact l r G z
    .have:=T.nw r ω n
     rw[z,Z] at this;cases this
   have U:H4 acc=some (.lst ys):=T.mo acc _ Z l;have IC:=au.ext (e3.trans T) d ys ry;cases b with
   |true=>
    refine Rj ?_;refine⟨A4,P,_,_,S3.next T r4,q4,λv A5 KW H5 u q5 e5 r5 v5=>?_⟩;have V:H5 acc=some (.lst ys):=e5.mo acc _ U w;have M:∀r,r<A5.length->KW r≠acc:=λr n z=>by
     by_cases G:r<A4.length
     .rw[e5.ag r G] at z;exact w r G z
     .have:=e5.nw r ω n
      rw[z,U] at this;cases this
    have ID:=au.ext e5 d ys IC;have p:=(I.trans T).trans e5;have fx:∀b o,jx o=false->H5 b=some o->upd H5 acc (.lst (ys++[u])) b=some o:=λb o m z=>by
     rw[bf]
     .exact z
     .rintro rfl
      rw[V] at z;cases z;cases m
    refine⟨V,by rw[<-au.length ID];exact q5.1,A5,KW,d++[v],r5.off M V rfl,⟨p.len,p.ag,p.im,λb o z hn=>?_,p.nw,λb o z=>?_⟩,M,fh,?_,q5.2⟩
    .rw[bf (dh z f)];exact p.mo b o z hn
    .obtain⟨o',h'⟩:=p.al b o z
     exact⟨o',by rw[bf (dh z f)];exact h'⟩
    .exact au.ag (aF _) (λ_ _=>rfl) fx _ _ (ID.app (es:=[v]) (ws:=[u]) ⟨u,[],rfl,v5,rfl⟩)
   |false=>
    refine Ri ?_;exact⟨A4,P,d,r4,I.trans T,w,U,IC,q4⟩
  .exact E.elim
 .left
  have e:i=items.length:=ω
  subst e;rw[List.drop_length] at E;obtain⟨t,E⟩:=E;refine⟨j1.stop a g H2 D r2 t,?_⟩;obtain⟨B,j,at2⟩:∃B:Io,(∀r,r<a.length->B r=g r)/\B a.length=acc:=⟨λr=>if r=a.length then acc else g r,λr h=>by
   show(if r=a.length then acc else g r)=g r;rw[ao ω],by
   show(if a.length=a.length then acc else g a.length)=acc;rw[aA rfl]⟩
  refine kq (.ref a.length) (a++[.lst d]) B H2 _ E (e1.trans ⟨by have:=D.len;simp;omega,λr h=>by rw[j r (cO h D.len)];exact D.ag r h,D.im,D.mo,λr h1 h2=>?_,D.al⟩) ⟨λr c h=>?_,λr s n hs h=>?_⟩ ⟨θ,by rw[at2]⟩
  .by_cases n:r<a.length
   .rw[j r n];exact D.nw r h1 n
   .have:r=a.length:=by simp at h2;omega
    subst this;rw[at2];exact f
  .by_cases n:r<a.length
   .rw[iu n] at h
    have:=CO.ag (n':=(a++[C.lst d]).length) (ι':=B) (H':=H2) θ j (λ_ _ _ z=>z) (λ_ z=>z) c (r2.iC r c h);rw[j r n];exact this
   .have hr':r=a.length:=by
     have:=(bY.mp h).1;simp at this;omega
    subst hr';simp at h;subst h;rw[at2];exact⟨ys,hy,au.ag θ j (λ_ _ _ z=>z) d ys ry⟩
  .simp at n hs
   by_cases h1:r=a.length
   .by_cases h2:s=a.length
    .rw[h1,h2]
    .subst h1
     rw[at2,j s ω] at h;exact absurd h.symm (l s ω)
   .by_cases h2:s=a.length
    .subst h2
     rw[at2,j r ω] at h;exact absurd h (l r ω)
    .rw[j r ω,j s ω] at h
     exact r2.inj r s ω ω h
end
noncomputable def oH:eU:=λ_ A R=>R true A
section
variable{X:Cx}{N:En}{own frees:List Str}{ix:List Nat}{it:jj}{tt:eU}{te:aP}(k:Option Nat){tg iter elt rL:Expr}{scope:Scope}{pos:Pos}
theorem eY(a:own.length=k.getD 1)(hi:PI X tg iter (jz X.mg N it))(b:∀c,PG (bZ X (own++frees) scope c) tg (qm X.K k))(d:∀c,PE (bZ X (own++frees) scope c) elt (up X.mg N te))(S:gG X scope frees:=by exact⟨rfl,η,η,η,η,rfl⟩)(hc:X.calm=true:=by rfl)(e:ix.map (λi=>X.N[i]?)=frees.map some:=by rfl)(f:∀x,foldedSetIterable iter X.env x=pure x:=by intro _;rfl):
  PE X (.ListComp elt [⟨tg,iter,[],0⟩] scope pos) (up X.mg N (mG k ix it oH te)):=
 dJ (HN hi b (λc=>jk.nil) d S hc e f) λσ H Q q=>xY (own:=own) a (λ_ σ H Q h=>by
  obtain⟨A,ι,τ,R,S,h,k⟩:=h;exact k.here S.ra h) q
theorem EV(a:own.length=k.getD 1)(hi:PI X tg iter (jz X.mg N it))(b:∀c,PG (bZ X (own++frees) scope c) tg (qm X.K k))(d:∀c,PT (bZ X (own++frees) scope c) rL (cW X.mg N tt))(e:∀c,PE (bZ X (own++frees) scope c) elt (up X.mg N te))(S:gG X scope frees:=by exact⟨rfl,η,η,η,η,rfl⟩)(hc:X.calm=true:=by rfl)(f:ix.map (λi=>X.N[i]?)=frees.map some:=by rfl)(g:∀x,foldedSetIterable iter X.env x=pure x:=by intro _;rfl):
  PE X (.ListComp elt [⟨tg,iter,[rL],0⟩] scope pos) (up X.mg N (mG k ix it tt te)):=
 dJ (HN hi b (λc=>jk.one (d c)) e S hc f g) λσ H Q q=>xY (own:=own) a (λ_ σ H Q h=>h) q
variable{i:Nat}{x:Str}{pos' spos:Pos}
theorem Fi(a:X.N.Nodup)(b:X.N[i]?=some x)(f:Loc X.env.scope x)(g:own.length=k.getD 1)(hi:PI X tg iter (jz X.mg N it))(j:∀c,PG (bZ X (own++frees) scope c) tg (qm X.K k))(l:∀c,PE (bZ X (own++frees) scope c) elt (up X.mg N te))(S:gG X scope frees:=by exact⟨rfl,η,η,η,η,rfl⟩)(hc:X.calm=true:=by rfl)(m:ix.map (λi=>X.N[i]?)=frees.map some:=by rfl)(n:∀x,foldedSetIterable iter X.env x=pure x:=by intro _;rfl)
  (d:swapsWith (.ListComp elt [⟨tg,iter,[],0⟩] scope pos) (some (.Name x pos')) spos.line X.env=pure true:=by rfl)(o:X.fn x=true\/X.env.scope.names.lookup x=some .local:=by first|exact .inl rfl|exact .inr rfl|assumption):
  PS X (.Assign [.Name x pos'] (.ListComp elt [⟨tg,iter,[],0⟩] scope pos) spos) (dj X.mg N (tE i (mG k ix it oH te))):=
 iT (HU a b f hi j (λc=>jk.nil) l S hc m n d o) λQ σ H q=>by
  obtain⟨A,ι,τ,R,Z,q,k⟩:=q;exact xY (own:=own) g (λ_ σ H Q h=>by
   obtain⟨A,ι,τ,R,S,h,k⟩:=h;exact k.here S.ra h) ⟨A,ι,τ,_,Z,q,λv w p H1 u r e s t=>(k.nx.from e).here ((Z.next e s).set t) r⟩
theorem NI(a:X.N.Nodup)(b:X.N[i]?=some x)(f:Loc X.env.scope x)(g:own.length=k.getD 1)(hi:PI X tg iter (jz X.mg N it))(j:∀c,PG (bZ X (own++frees) scope c) tg (qm X.K k))(l:∀c,PT (bZ X (own++frees) scope c) rL (cW X.mg N tt))(m:∀c,PE (bZ X (own++frees) scope c) elt (up X.mg N te))(S:gG X scope frees:=by exact⟨rfl,η,η,η,η,rfl⟩)(hc:X.calm=true:=by rfl)(n:ix.map (λi=>X.N[i]?)=frees.map some:=by rfl)(o:∀x,foldedSetIterable iter X.env x=pure x:=by intro _;rfl)
  (d:swapsWith (.ListComp elt [⟨tg,iter,[rL],0⟩] scope pos) (some (.Name x pos')) spos.line X.env=pure true:=by rfl)(p:X.fn x=true\/X.env.scope.names.lookup x=some .local:=by first|exact .inl rfl|exact .inr rfl|assumption):
  PS X (.Assign [.Name x pos'] (.ListComp elt [⟨tg,iter,[rL],0⟩] scope pos) spos) (dj X.mg N (tE i (mG k ix it tt te))):=
 iT (HU a b f hi j (λc=>jk.one (l c)) m S hc n o d p) λQ σ H q=>by
  obtain⟨A,ι,τ,R,Z,q,k⟩:=q;exact xY (own:=own) g (λ_ σ H Q h=>h) ⟨A,ι,τ,_,Z,q,λv y r H1 u s e t w=>(k.nx.from e).here ((Z.next e t).set w) s⟩
end
abbrev qV:=bO->Ar->(Option Int->Ar->Prop)->Prop
noncomputable def xX(mg:aB)(N:En)(m:qV):TO:=λσ H Q=>∃A ι τ R,dH mg N A ι τ σ H/\m τ A R/\∀o A' ι' H',R o A'->Ext A ι H A' ι' H'->RA mg ι' H' A'->Q o H'
noncomputable def oN:qV:=λ_ A R=>R none A
noncomputable def oS(m:aP):qV:=λτ A R=>m τ A λx A1=>match x with
 |.int i=>R (some i) A1
 |_=>False
noncomputable def cutD(xs:List D)(lo hi:Option Int):List D:=(xs.drop (HT.bh xs.length 0 lo)).take (HT.bh xs.length xs.length hi - HT.bh xs.length 0 lo)
theorem au.cut{mg:aB}{ι:Io}{H:Hp}{n:Nat}{ds:List D}{vs:List V}(r:au mg ι n H ds vs)(lo hi:Option Int):au mg ι n H (cutD ds lo hi) (mF vs lo hi):=by
 unfold cutD mF;rw[<-au.length r];exact(r.drop _).take _
@[irreducible] def oF(r:Nat)(lo hi:Option Int)(A:Ar)(R:DK):Prop:=match A[r]? with
 |some (.lst xs)=>R (.ref A.length) (A++[.lst (cutD xs lo hi)])
 |_=>False
def Xx(x:D)(lo hi:Option Int)(A:Ar)(R:DK):Prop:=match x with
 |.tup xs=>¬(HT.bh xs.length 0 lo=0/\HT.bh xs.length xs.length hi=xs.length)/\R (.tup (cutD xs lo hi)) A
 |.ref r=>oF r lo hi A R
 |_=>False
noncomputable def MZ(m:aP)(l u:qV):aP:=λτ A R=>m τ A λx A1=>l τ A1 λlo A2=>u τ A2 λhi A3=>Xx x lo hi A3 R
section
variable{X:Cx}{N:En}{pos p2:Pos}{e:Expr}{lo hi:Option Expr}{m:aP}{l u:qV}
theorem Ff{t t':TO}(h:PO X lo t)(w:∀σ H Q,t' σ H Q->t σ H Q):PO X lo t':=λpins s σ H Q I q=>h pins s σ H Q I (w σ H Q q)
theorem zV:PO X none (xX X.mg N oN):=Ff Vc λσ H Q q=>by
 obtain⟨A,ι,τ,R,S,q,k⟩:=q;exact k none A ι H q S.ra.refl S.ra
theorem zW(h:PE X e (up X.mg N m)):PO X (some e) (xX X.mg N (oS m)):=Ff (Vd h) λσ H Q q=>by
 obtain⟨A,ι,τ,R,S,q,k⟩:=q;refine⟨A,ι,τ,_,S,q,λx c a H1 u b d f g=>?_⟩;cases x with
 |int i=>exact⟨i,g,k (some i) c a H1 b d f⟩
 |_=>exact b.elim
theorem zQ(t:PE X e (up X.mg N m))(w:PO X lo (xX X.mg N l))(y:PO X hi (xX X.mg N u)):PE X (.Subscript e (.Slice lo hi none p2) pos) (up X.mg N (MZ m l u)):=
 dJ (UM (XA.or Xz) t w y) λσ H Q q=>by
  obtain⟨A,ι,τ,R,S,q,k⟩:=q;refine⟨A,ι,τ,_,S,q,λx z d H1 v B f n C=>?_⟩;refine⟨z,d,τ,_,S.next f n,B,λD E g H2 F h G=>?_⟩;refine⟨E,g,τ,_,(S.next f n).next h G,F,λI J K M b o i=>?_⟩;have c:=(f.trans h).trans o;have s:=RV.ext (h.trans o) x v C;cases x with
  |tup ds=>
   obtain⟨a,xs,rfl,h1,h2⟩:=s;refine .inl ⟨a,xs,rfl,bP.of h1,by rw[<-au.length h2];exact b.1,λp j=>v_ (k.from c) i (h2.cut _ _) b.2 j⟩
  |ref r=>
   obtain⟨_,rfl⟩:=s;have b:oF r D I J R:=b;unfold oF at b;split at b
   .rename_i xs e
    obtain⟨L,h1,h2⟩:=i.lst e;exact .inr ⟨_,L,rfl,aV.of h1,λp j=>jT (k.from c) i (h2.cut _ _) b j⟩
   .exact b.elim
  |_=>exact b.elim
end
noncomputable def kP:List D->Option (List Str)
 |[]=>some []
 |.str b::r=>(kP r).map (b::·)
 |_::_=>none
theorem Kq{mg:aB}{ι:Io}{n:Nat}{H:Hp}:∀{ds:List D} {a:List V} {bs:List Str},kP ds=some bs->au mg ι n H ds a->a=bs.map V.str
 |[],a,bs,h,r=>by cases h;exact r
 |d::ds,a,bs,h,r=>by
  obtain⟨x,r',rfl,h1,h2⟩:=r;cases d with
  |str b=>
   cases q:kP ds with
   |none=>simp[kP,q] at h
   |some l=>
    simp[kP,q] at h;subst h;rw[Kq q h2];cases h1;rfl
  |_=>simp[kP] at h
theorem au.strs{mg:aB}{ι:Io}{H:Hp}:∀(ns:List Str) {n:Nat},au mg ι n H (ns.map D.str) (ns.map V.str)
 |[],_=>rfl
 |i::r,n=>⟨_,_,rfl,rfl,au.strs r⟩
@[irreducible] def tM(r:Nat)(A:Ar)(R:DK):Prop:=match A[r]? with
 |some (.lst xs)=>(match kP xs with
  |some ss=>ss.length<64/\∀ys:List Str,ys.Pairwise strLt->(∀x,x∈ys↔x∈ss)->R (.ref A.length) (A++[.lst (ys.map D.str)])
  |none=>False)
 |_=>False
noncomputable def XN:gH:=λvs A R=>match vs with
 |[.ref r]=>tM r A R
 |_=>False
theorem zR{X:Cx}{N:En}{e:Expr}{n:dw}{p1 p2 pos1 pos2:Pos}(b:X.mg "sorted"=none)(c:X.mg "set"=none)(hc:X.calm=true)(i:PA X [e] (fO X.mg N n))(d:Gl X "sorted":=by rfl)(f:Gl X "set":=by rfl)
  (j:starEach [e] X.env=[(false,eval e X.env)]:=by rfl)(hz:starEach [.Call (.Name "set" p2) [e] [] pos2] X.env=[(false,eval (.Call (.Name "set" p2) [e] [] pos2) X.env)]:=by rfl):
  PE X (.Call (.Name "sorted" p1) [.Call (.Name "set" p2) [e] [] pos2] [] pos1) (up X.mg N (rM XN n)):=dJ (UN b c hc i d f j hz) λσ H Q q=>by
 obtain⟨A,ι,τ,R,S,q,k⟩:=q;refine⟨A,ι,τ,_,S,q,λvs m o H1 p a s h g=>?_⟩;match vs,a,g with
 |[.ref r],a,g=>
  obtain⟨_,_,rfl,⟨_,rfl⟩,rfl⟩:=g;have a:tM r m R:=a;unfold tM at a;split at a
  .rename_i xs e
   split at a
   .rename_i ss es
    obtain⟨p,h1,h2⟩:=h.lst e;exact⟨_,ss,rfl,aV.of (by rw[h1,Kq es h2]),a.1,λl ys t u v=>jT (k.from s) h (au.strs ys) (a.2 ys u v) t⟩
   .exact a.elim
  .exact a.elim
noncomputable def b5{β:Type}(kvs:List (Key×β))(k:Key)(v:β):List (Key×β):=
 if (kvs.any λkv=>decide (kv.1=k))=true then kvs.map (λkv=>if kv.1=k then (kv.1,v) else kv) else kvs++[(k,v)]
section
variable{mg:aB}{ι:Io}{H:Hp}{n:Nat}
theorem RK.any{k:Key}:∀{kvs:List (Key×D)} {xs:List (Key×V)},RK mg ι n H kvs xs->(kvs.any λa=>decide (a.1=k))=(xs.any λa=>decide (a.1=k))
 |[],xs,h=>by cases (show xs=[] from h);rfl
 |p::r,xs,h=>by
  obtain⟨x,r',rfl,h1,h2⟩:=h;rw[oY,oY,RK.any h2]
theorem RK.AO{k:Key}{d:D}{v:V}(c:RV mg ι n H d v):∀{kvs:List (Key×D)} {xs:List (Key×V)},RK mg ι n H kvs xs->RK mg ι n H (kvs.map λa=>if a.1=k then (a.1,d) else a) (xs.map λa=>if a.1=k then (a.1,v) else a)
 |[],xs,h=>by cases (show xs=[] from h);rfl
 |p::r,xs,h=>by
  obtain⟨x,r',rfl,h1,h2⟩:=h;rw[cK,cK];by_cases b:p.1=k
  .rw[aA b,aA b];exact⟨v,_,rfl,c,RK.AO c h2⟩
  .rw[ao b,ao b];exact⟨x,_,rfl,h1,RK.AO c h2⟩
theorem RK.app:∀{ds es:List (Key×D)} {vs ws:List (Key×V)},RK mg ι n H ds vs->RK mg ι n H es ws->RK mg ι n H (ds++es) (vs++ws)
 |[],_,vs,_,h,q=>by have h':vs=[]:=h;rw[h'];exact q
 |d::ds,es,vs,ws,h,q=>by
  obtain⟨x,r,rfl,a,b⟩:=h;exact⟨x,r++ws,rfl,a,RK.app b q⟩
theorem RK.put{k:Key}{d:D}{v:V}(a:RV mg ι n H d v){kvs:List (Key×D)}{xs:List (Key×V)}(h:RK mg ι n H kvs xs):RK mg ι n H (b5 kvs k d) (putK xs k v):=by
 unfold b5 putK;rw[RK.any h];split
 .exact RK.AO a h
 .exact h.app (es:=[(k,d)]) (ws:=[(k,v)]) ⟨v,[],rfl,a,rfl⟩
end
noncomputable def fy:List D->Option (List (Key×D))
 |[]=>some []
 |.tup [a,b]::r=>(match gc a,fy r with
  |some k,some l=>some ((k,b)::l)
  |_,_=>none)
 |_::_=>none
noncomputable def m6(ps:List (Key×D)):List (Key×D):=ps.foldl (λacc p=>b5 acc p.1 p.2) []
section
variable{mg:aB}{K:Frag}{ι:Io}{H:Hp}{n:Nat}
theorem HG:∀{ds:List D} {c:List V} {ps:List (Key×D)},fy ds=some ps->au mg ι n H ds c->∃qs,RK mg ι n H ps qs/\c.length=qs.length/\∀(i:Nat) (x:V) (p:Key×V),c[i]?=some x->qs[i]?=some p->∃t,x=.ref t/\bP K H t [kV p.1,p.2]
 |[],c,ps,h,r=>by
  cases h;cases (show c=[] from r);exact⟨[],rfl,rfl,λi x p e=>by simp at e⟩
 |.tup [a,b]::ds,c,ps,h,r=>by
  obtain⟨x,r',rfl,h1,h2⟩:=r;unfold fy at h;split at h
  .rename_i k l m o
   cases h;obtain⟨qs,q,s,u⟩:=HG o h2;obtain⟨t,xs,rfl,v,B,_,rfl,w,d,_,rfl,y,A⟩:=h1;obtain rfl:=A;cases nX m w;refine⟨(k,d)::qs,⟨d,qs,rfl,y,q⟩,by simp[s],λi z p hz j=>?_⟩;cases i with
   |zero=>
    have f:V.ref t=z:=by simpa using hz
    have g:(k,d)=p:=by simpa using j
    subst f g;exact⟨t,rfl,bP.of v⟩
   |succ i=>exact u i z p (by simpa using hz) (by simpa using j)
  .cases h
 |.aG::_,_,_,h,_=>by simp[fy] at h
 |.bl _::_,_,_,h,_=>by simp[fy] at h
 |.int _::_,_,_,h,_=>by simp[fy] at h
 |.str _::_,_,_,h,_=>by simp[fy] at h
 |.ref _::_,_,_,h,_=>by simp[fy] at h
 |.fl _::_,_,_,h,_=>by simp[fy] at h
 |.exc _::_,_,_,h,_=>by simp[fy] at h
 |.tup []::_,_,_,h,_=>by simp[fy] at h
 |.tup [_]::_,_,_,h,_=>by simp[fy] at h
 |.tup (_::_::_::_)::_,_,_,h,_=>by simp[fy] at h
theorem RK.fold{ps:List (Key×D)}{qs:List (Key×V)}(h:RK mg ι n H ps qs):∀{acc:List (Key×D)} {rC:List (Key×V)},RK mg ι n H acc rC->RK mg ι n H (ps.foldl (λacc p=>b5 acc p.1 p.2) acc) (qs.foldl (λacc p=>putK acc p.1 p.2) rC):=by
 induction ps generalizing qs with
 |nil=>intro acc rC a;cases (show qs=[] from h);exact a
 |cons p r b=>
  intro acc rC a;obtain⟨x,r',rfl,h1,h2⟩:=h;exact b h2 (RK.put h1 a)
end
theorem Hq{mg:aB}{A:Ar}{ι:Io}{H:Hp}{R:DK}{Q:VK}{ds:List (Key×D)}{xs:List (Key×V)}{p:Addr}(k:Kt mg A ι H R Q)(r:RA mg ι H A)(h:RK mg ι A.length H ds xs)(q:R (.ref A.length) (A++[.dct ds]))(a:H p=none):Q (.ref p) (upd H p (.dK xs)):=by
 have E:Ext A ι H (A++[.dct ds]) (λr=>if r=A.length then p else ι r) (upd H p (.dK xs)):=r.z4 a;obtain⟨b,d⟩:=r.push (c:=.dct ds) (o:=.dK xs) a ⟨xs,fh,by simpa using RK.ext E ds xs h⟩;refine k _ _ _ _ _ q d b ⟨θ,?_⟩;show V.ref p=V.ref (if A.length=A.length then p else ι A.length);rw[aA rfl]
@[irreducible] def dctP(xs:List D)(A:Ar)(R:DK):Prop:=match fy xs with
 |some ps=>ps.length<=1000/\R (.ref A.length) (A++[.dct (m6 ps)])
 |none=>False
@[irreducible] def u9(r:Nat)(A:Ar)(R:DK):Prop:=match A[r]? with
 |some (.lst xs)=>dctP xs A R
 |_=>False
noncomputable def EU:gH:=λvs A R=>match vs with
 |[.tup xs]=>dctP xs A R
 |[.ref r]=>u9 r A R
 |_=>False
theorem RK.len'{mg:aB}{ι:Io}{H:Hp}{n:Nat}{ds:List (Key×D)}{vs:List (Key×V)}(h:RK mg ι n H ds vs):vs.length=ds.length:=(RK.length h).symm
theorem mH{mg:aB}{K:Frag}:iy mg (λxs H Q=>∃(p:Addr) (b:List V) (ps:List (Key×V)),xs=[.ref p]/\(H p=some (.lst b)\/H p=some (.tup b))/\Pairs K H b ps/\ps.length<=1000/\∀d,H d=none->Q (.ref d) (upd H d (.dK (putAll ps)))) EU:=by
 intro ds A ι H f R Q ra rs h k;have fin:∀(xs:List D) (b:List V) (p:Addr),au mg ι A.length H xs b->(H p=some (.lst b)\/H p=some (.tup b))->dctP xs A R->∃(q:Addr) (b:List V) (ps:List (Key×V)),[V.ref p]=[.ref q]/\(H q=some (.lst b)\/H q=some (.tup b))/\Pairs K H b ps/\ps.length<=1000/\∀d,H d=none->Q (.ref d) (upd H d (.dK (putAll ps))):=λxs b p r i h=>by
  unfold dctP at h;split at h
  .rename_i ps ep
   obtain⟨qs,g,j,l⟩:=HG (K:=K) ep r;exact⟨p,b,qs,rfl,i,⟨j,l⟩,by rw[RK.len' g];exact h.1,λd hd=>Hq k ra (RK.fold g (acc:=[]) (rC:=[]) rfl) h.2 hd⟩
  .exact h.elim
 unfold EU at h;split at h
 .obtain⟨_,_,rfl,⟨a,xs,rfl,m,c⟩,rfl⟩:=rs
  exact fin _ xs a c (.inr m) h
 .obtain⟨_,_,rfl,⟨_,rfl⟩,rfl⟩:=rs
  unfold u9 at h;split at h
  .rename_i xs e
   obtain⟨f,h1,c⟩:=ra.lst e;exact fin _ f _ c (.inl h1) h
  .exact h.elim
 .exact h.elim
noncomputable def MW:aP:=λ_ A R=>R (.ref A.length) (A++[.dct []])
theorem zO{X:Cx}{N:En}{pos:Pos}:PE X (.Dict [] [] pos) (up X.mg N MW):=dJ UA λσ H Q q=>by
 obtain⟨A,ι,τ,R,S,q,k⟩:=q;exact λp a=>Hq (ds:=[]) (xs:=[]) k S.ra rfl q a
@[irreducible] def sZ(r:Nat)(y v:D)(A:Ar)(R:Ar->Prop):Prop:=match A[r]?,gc y with
 |some (.dct kvs),some k=>kvs.length<sizeLine/\R (A.set r (.dct (b5 kvs k v)))
 |_,_=>False
noncomputable def Wi(mo mi mv:aP):dF:=λR τ A=>mv τ A λv A1=>mo τ A1 λx A2=>mi τ A2 λy A3=>match x with
 |.ref r=>sZ r y v A3 λA4=>R.nx τ A4
 |_=>False
theorem vq{X:Cx}{N:En}{pos pos':Pos}{o i value:Expr}{mo s mv:aP}(Y:X.A.units+64<cLine)(C:PE X o (up X.mg N mo))(hi:PE X i (up X.mg N s))(D:PE X value (up X.mg N mv))(F:swapsWith value (some (.Subscript o i pos')) pos.line X.env=pure false):
  PS X (.Assign [.Subscript o i pos'] value pos) (dj X.mg N (Wi mo s mv)):=iT (Vo ω C hi D F) λQ σ H q=>by
 obtain⟨A,ι,τ,R,S,q,k⟩:=q;refine⟨A,ι,τ,_,S,q,λv G j H1 w I b l J=>?_⟩;refine⟨G,j,τ,_,S.next b l,I,λx K m H2 u L d t v2=>?_⟩;refine⟨K,m,τ,_,(S.next b l).next d t,L,λy M O Z z a f g P=>?_⟩;have n:=RV.ext (d.trans f) v w J;have p:=RV.ext f x u v2;cases x with
 |ref r=>
  obtain⟨_,rfl⟩:=p;have a:sZ r y v M (λT=>R.nx τ T):=a;unfold sZ at a;split at a
  .rename_i kvs h e U
   obtain⟨xs,h1,h2⟩:=g.dct e;cases nX U P;refine⟨_,_,rfl,qU.k h1 (by rw[<-RK.length h2];exact a.1),?_⟩;have V:=(bY.mp e).1;have E:=g.nP (o:=.dK (putK xs h w)) (c:=.dct (b5 kvs h v)) V;obtain⟨W,B⟩:=g.put (c':=.dct (b5 kvs h v)) (o:=.dK (putK xs h w)) e h1 rfl ⟨_,fh,by simpa using RK.ext E _ _ (RK.put n h2)⟩;exact(k.nx.from (((b.trans d).trans f).trans B)).here ((((S.next b l).next d t).next f g).next B W) a.2
  .exact a.elim
 |_=>exact a.elim
noncomputable def MN(x:Str)(m:aP):aP:=λτ A R=>m τ A λv A1=>match v with
 |.str y=>x.length+y.length<=sizeLine/\R (.str (x++y)) A1
 |_=>False
theorem Nh{X:Cx}{N:En}{e:Expr}{m:aP}{x:Str}{k:Nat}{p1 p2 pos:Pos}(b:PE X e (up X.mg N m))(c:x.length<=sizeLine:=by decide):PE X (.JoinedStr [.Constant (.str x) k p1,.FormattedValue e (-1) none p2] pos) (up X.mg N (MN x m)):=
 dJ (UB b c) λσ H Q q=>by
  obtain⟨A,ι,τ,R,S,q,k⟩:=q;refine⟨A,ι,τ,_,S,q,λv i d H1 u a f g h=>?_⟩;cases v with
  |str y=>cases h;exact⟨y,rfl,a.1,(k.from f).here g a.2 rfl⟩
  |_=>exact a.elim
noncomputable def Ti:DX:=λ_ _=>False
theorem m5{X:Cx}{N:En}{P:Program}{w:World}:Passes (bV P w) X (EL X.mg N Ti):=λpins σ H s e s' I h=>by
 obtain⟨a,C,H',_,_,c,A',ι',_,_,_,z⟩:=h;exact z.elim
theorem RQ{K:Frag}:∀t∈tys,kitOne K (.type t) (.type "bool")=some (lG t "bool"):=by
 intro t a;simp only[tys,aY,fP,fQ] at a;rcases a with rfl|rfl|rfl|rfl|rfl|rfl|rfl<;>rfl
theorem RT{K:Frag}:∀t∈tys,kitOne K (.type t) (.type "int")=some (lG t "int"):=by
 intro t a;simp only[tys,aY,fP,fQ] at a;rcases a with rfl|rfl|rfl|rfl|rfl|rfl|rfl<;>rfl
theorem GG{K:Frag}:∀t∈tys,kitOne K (.type t) (.type "str")=some (lG t "str"):=by
 intro t a;simp only[tys,aY,fP,fQ] at a;rcases a with rfl|rfl|rfl|rfl|rfl|rfl|rfl<;>rfl
theorem kit_tuple{K:Frag}:∀t∈tys,kitOne K (.type t) (.type "tuple")=some (lG t "tuple"):=by
 intro t a;simp only[tys,aY,fP,fQ] at a;rcases a with rfl|rfl|rfl|rfl|rfl|rfl|rfl<;>rfl
theorem RU{K:Frag}:∀t∈tys,kitOne K (.type t) (.type "list")=some (lG t "list"):=by
 intro t a;simp only[tys,aY,fP,fQ] at a;rcases a with rfl|rfl|rfl|rfl|rfl|rfl|rfl<;>rfl
theorem cI{b:Bool}{X Y:Prop}(h1:b=true->X)(h2:b=false->Y):cond b X Y:=by
 cases b with
 |true=>exact h1 rfl
 |false=>exact h2 rfl
theorem cD{p:Prop}[Decidable p]{X Y:Prop}(h1:p->X)(h2:¬p->Y):cond (decide p) X Y:=cI (λe=>h1 (gD e)) λe=>h2 (of_decide_eq_false e)
theorem cN{p:Prop}[Decidable p]{X Y:Prop}(h1:¬p->X)(h2:p->Y):cond (!decide p) X Y:=cI (λe=>h1 (of_decide_eq_false (by simpa using e))) λe=>h2 (gD (by simpa using e))
def cH(t:Nat)(A A':Ar):Prop:=∀q c,q≠t->A[q]?=some c->A'[q]?=some c
theorem cH.refl{t:Nat}{A:Ar}:cH t A A:=λ_ _ _ h=>h
theorem cH.trans{t:Nat}{A B C:Ar}(a:cH t A B)(b:cH t B C):cH t A C:=λq c n h=>b q c n (a q c n h)
theorem cH.set{t:Nat}{A:Ar}{c:C}:cH t A (A.set t c):=λq d n h=>by rw[eE (Ne.symm n)];exact h
def Tw(t n:Nat)(A:Ar):Prop:=∃xs,A[t]?=some (.lst xs)/\xs.length<=n
theorem Tw.mono{t n m:Nat}{A:Ar}(h:Tw t n A)(l:n<=m):Tw t m A:=let ⟨xs,a,b⟩:=h;⟨xs,a,cC b l⟩
theorem getElem?_push{A T:Ar}{q:Nat}{c:C}(h:A[q]?=some c):(A++T)[q]?=some c:=by
 have:=(bY.mp h).1;rw[iu this];exact h
def Gr(A A':Ar):Prop:=∃T,A'=A++T
theorem Gr.refl{A:Ar}:Gr A A:=⟨[],θ⟩
theorem Gr.push{A T:Ar}:Gr A (A++T):=⟨T,rfl⟩
theorem Gr.trans{A B C:Ar}(a:Gr A B)(b:Gr B C):Gr A C:=by
 obtain⟨T,rfl⟩:=a;obtain⟨c,rfl⟩:=b;exact⟨T++c,θ⟩
theorem Gr.get{A B:Ar}(a:Gr A B){q:Nat}{c:C}(h:A[q]?=some c):B[q]?=some c:=by
 obtain⟨T,rfl⟩:=a;exact getElem?_push h
theorem Gr.but{A B:Ar}{t:Nat}(a:Gr A B):cH t A B:=λ_ _ _ h=>a.get h
theorem Tw.gr{A B:Ar}{t n:Nat}(h:Tw t n A)(a:Gr A B):Tw t n B:=let ⟨xs,x,y⟩:=h;⟨xs,a.get x,y⟩
def C2:Ct:=λds A R _=>∃ns k,ds=[.fl ns,.int k]/\0<=k/\∀i A',Gr A A'->R (.int i) A'
def Dq:Ct:=λds A R _=>∃ns k m,ds=[.fl ns,.int k,.int m]/\0<=k/\0<m/\∀i A',0<=i->i<m->Gr A A'->R (.int i) A'
def mw:Ct:=λds A R _=>∃ns t m n,ds=[.fl ns,.ref t,.int m]/\Tw t n A/\n<1000000/\0<m/\∀i A',0<=i->i<m->cH t A A'->Tw t (n+1) A'->R (.int i) A'
def nH:Ct:=λds A R _=>∃ns t q xs n,ds=[.fl ns,.ref t,.ref q]/\q≠t/\A[q]?=some (.lst xs)/\xs≠[]/\Tw t n A/\n<1000000/\∀x A',x∈xs->cH t A A'->Tw t (n+1) A'->R x A'
theorem uR{α:Type}{xs:List α}{k:Int}(h0:0<=k)(h:k<(xs.length:Int)):∃v,cY xs k=some v/\v∈xs:=by
 have a:k.toNat<xs.length:=ω
 refine⟨xs[k.toNat],?_,kY a⟩;unfold cY iX;rw[aA h0,aA h];simp[a_ a]
theorem lay_ints:∀ns:List Int,canLayAll0 (ns.map PyData.int)=true
 |[]=>by simp[canLayAll0]
 |n::r=>by simp[canLayAll0,canLay0,lay_ints r]
theorem aE{A:Ar}{c:C}:(A++[c])[A.length]?=some c:=θ
theorem N9{ns:List Int}{A:Ar}{R:DK}(h:R (.bl (decide (ns=[]))) (A++[.lst []])):gK false (.fl ns) (.ref A.length) (A++[.lst []]) R:=by
 unfold gK;have a:cV (A++[.lst []]) (.ref A.length)=.list []:=by unfold cV;simp only[aE];rfl
 have b:cV (A++[.lst []]) (.fl ns)=.list (ns.map PyData.int):=by unfold cV;rfl
 refine⟨rfl,?_,?_,?_,?_,?_⟩
 .unfold i7;simp only[aE];rfl
 .rw[b];simpa[canLay0] using lay_ints ns
 .rw[a];simp[canLay0,canLayAll0]
 .rw[a];simp[PyData.depth,depthAll];omega
 .rw[b,a]
  have e:PyData.eqv (.list (ns.map PyData.int)) (.list [])=decide (ns=[]):=by cases ns<;>simp[PyData.eqv,eqvAll]
  rw[ao bU,e];exact h
section
variable{A:Ar}{r q t:Nat}{xs ys:List D}{kvs:List (Key×D)}{R:DK}
theorem gx(h:A[r]?=some (.lst xs)):nV A (.ref r)=true:=by unfold nV;simp only[h]
theorem iP{y:D}(h:A[r]?=some (.lst xs))(hz:xs.length<sizeLine)(k:R .aG (A.set r (.lst (xs++[y])))):uP r y A R:=by
 unfold uP;simp only[h];exact⟨hz,k⟩
theorem vB(h:A[r]?=some (.lst xs))(h2:A[q]?=some (.lst ys))(hz:xs.length+ys.length<=sizeLine)(k:R .aG (A.set r (.lst (xs++ys)))):rX r q A R:=by
 unfold rX;simp only[h,h2];exact⟨hz,k⟩
theorem iR(h:A[r]?=some (.lst xs))(h2:A[q]?=some (.lst ys))(hz:xs.length+ys.length<=sizeLine)(k:R (.ref A.length) (A++[.lst (xs++ys)])):uW r q A R:=by
 unfold uW;simp only[h,h2];exact⟨hz,k⟩
theorem vR(h:A[r]?=some (.lst xs))(k:R (.int xs.length) A):vQ r A R:=by
 unfold vQ;simp only[h];exact k
theorem kF{i:Int}{v:D}(h:A[r]?=some (.lst xs))(hi:cY xs i=some v)(k:R v A):lH r (.int i) A R:=by
 unfold lH;simp only[h,hi];exact k
theorem tQ(h:A[r]?=some (.lst xs))(k:R (.tup xs) A):xV r A R:=by
 unfold xV;simp only[h];exact k
theorem Su(h:A[r]?=some (.lst xs))(k:R (.ref A.length) (A++[.lst xs])):vV r A R:=by
 unfold vV;simp only[h];exact k
theorem get_set(h:A[t]?=some (.lst xs)):(A.set t (.lst ys))[t]?=some (.lst ys):=by
 rw[eF (bY.mp h).1]
theorem cy{c:C}(h:A[t]?=some c):t<A.length:=(bY.mp h).1
end
theorem KR{ns:List Int}{its:List Value}(r:Vals (ns.map V.int) its):∀(i:Nat) (v:Value),its.toArray[i]?=some v->∃t:Tok,v=Value.int (ns.getD i 0) t:=λi v h=>by
 have h':its[i]?=some v:=by simpa using h
 have hi:=(bY.mp h').1;have c:=r.length;have a:i<(ns.map V.int).length:=ω
 obtain⟨u,e,b⟩:=r.get (a_ a);rw[h'] at e;cases e;rw[List.getElem_map] at b;obtain⟨t,rfl⟩:=b;refine⟨t,?_⟩;rw[fT,a_ (by simpa using a)];rfl
open MA
abbrev M:=aX Str
noncomputable def enc:M->D
 |.wt n=>.tup [.str "weight",.str n]
 |.bS l r a b=>.tup [.str "rod",.int l,.int r,enc a,enc b]
theorem iS{k:Option Nat}{fr:bO}{te:aP}{a:Ar->Prop}{R:List D->Ar->Prop}{A:Ar}(hc:a A)(f:D->D):∀(items ys:List D),(∀x∈items,∃vs,nc k x=some vs/\∀Q:DK,Q (f x) A->te (vs.map some++fr) A Q)->ys.length+items.length<=sizeLine->R (ys++items.map f) A->jO a k fr oH te R items ys A
 |[],ys,_,_,h=>⟨hc,by simpa using h⟩
 |x::xs,ys,b,c,h=>by
  obtain⟨vs,d,e⟩:=b x (aT ..);refine⟨hc,?_⟩;rw[d];refine e _ ⟨by simp at c;omega,iS hc f xs (ys++[f x]) (λy g=>b y (bq _ g)) (by simp at c ⊢;omega) (by simpa using h)⟩
theorem nJ{α:Type}(f:α->Bool):∀xs:List α,jn (xs.map λx=>D.bl (f x))=some (xs.map f)
 |[]=>rfl
 |x::r=>by simp[jn,nJ f r]
theorem ints_map{α:Type}(f:α->Int):∀xs:List α,iW (xs.map λx=>D.int (f x))=some (xs.map f)
 |[]=>rfl
 |x::r=>by simp[iW,ints_map f r]
theorem strs_map{α:Type}(f:α->Str):∀xs:List α,kP (xs.map λx=>D.str (f x))=some (xs.map f)
 |[]=>rfl
 |x::r=>by simp[kP,strs_map f r]
theorem uN{A:Ar}{r:Nat}{xs:List D}{bs:List Bool}{R:DK}(h:A[r]?=some (.lst xs))(a:jn xs=some bs)(k:R (.bl (bs.all id)) A):allR r A R:=by
 unfold allR;simp only[h,a];exact k
theorem X6{A:Ar}{r:Nat}{xs:List D}{ns:List Int}{R:DK}(h:A[r]?=some (.lst xs))(a:iW xs=some ns)(h1:∀n∈ns,0<=n/\n<=2 ^ 40)(h2:ns.length<=1000)(k:R (.int ns.sum) A):xR r A R:=by
 unfold xR;simp only[h,a];exact⟨h1,h2,k⟩
theorem BG{A:Ar}{r:Nat}{xs:List D}{ss:List Str}{R:DK}(h:A[r]?=some (.lst xs))(a:kP xs=some ss)(h2:ss.length<64)(k:∀ys:List Str,ys.Pairwise strLt->(∀x,x∈ys↔x∈ss)->R (.ref A.length) (A++[.lst (ys.map D.str)])):tM r A R:=by
 unfold tM;simp only[h,a];exact⟨h2,k⟩
theorem d7{A:Ar}{r:Nat}{xs:List D}{R:List D->(Ar->Prop)->Ar->Prop}(h:A[r]?=some (.lst xs))(k:R xs (λA'=>A'[r]?=some (.lst xs)) A):itR r A R:=by
 unfold itR;simp only[h];exact k
structure Nm(n:Str):Prop where
 lo:1<=n.length
 hi:n.length<=3
 az:∀c∈n.cps.toList,97<=c/\c<=122
structure Wf(m:M):Prop where
 arms:m.arms
 nm:∀n∈m.names,Nm n
def SV(dom:List D->D->Prop):Ct:=λds A R _=>∃v,dom ds v/\∀A',Gr A A'->R v A'
def SL(dom:List D->List D->Prop):Ct:=λds A R _=>∃v,dom ds v/\∀A' r,Gr A A'->A'[r]?=some (.lst v)->R (.ref r) A'
abbrev uL:Ct:=SV λds v=>∃i a b,ds=[.int i,.int a,.int b]/\v=.bl (decide (a<=i)&&decide (i<=b))
abbrev zg:Ct:=SV λds v=>∃n,ds=[.str n]/\Nm n/\v=.bl true
abbrev Dd(d:Nat):Ct:=SV λds v=>∃m,ds=[enc m,.int ((d:Int) - 1)]/\Wf m/\m.deep<d/\v=.bl true
abbrev ze:Ct:=SV λds v=>∃m,ds=[enc m]/\Wf m/\m.deep<=5/\v=.bl true
abbrev pA:Ct:=SV λds v=>∃m,ds=[enc m]/\Wf m/\m.deep<=5/\v=.aG
theorem nR{P:Program}{w:World}{K:Frag}{mg:aB}{base:Heap}{x:Str}{st:Stmt}{ps:List Str}{k n:Nat}{S:Ct}(T:TopD K mg x st ps)(no:∀ds A R RE,¬S ds A R RE):aj P w K mg base k x ps (ak mg n S):=by
 obtain⟨f,fd,F,b,m⟩:=T;have a:∀vs H Q E,¬ak mg n S vs H Q E:=λvs H Q E h=>by
  obtain⟨A,ι,ds,R,RE,_,_,_,z,_⟩:=h;exact no _ _ _ _ z
 exact⟨f,fd,⟨λvs H Q E h=>absurd h (a vs H Q E),λA outer s H args c vs Q E _ _ _ _ h=>absurd h (a vs H Q E)⟩,b,F.kp,m⟩
noncomputable def bH(r:Str×Int):D:=.tup [.str r.1,.int r.2]
noncomputable def fc(rs:List (Str×Int)):D:=.tup (rs.map bH)
noncomputable def c_(rs:List (Str×Int)):List (Key×D):=rs.map λr=>(Sum.inr r.1,.int r.2)
structure jm(rs:List (Str×Int)):Prop where
 nm:∀r∈rs,Nm r.1
 no:∀r∈rs,1<=r.2/\r.2<=999999
 up:(rs.map (·.1)).Pairwise strLt
 len:rs.length<64
noncomputable def val(rs:List (Str×Int))(n:Str):Int:=((rs.find? λr=>r.1=n).map (·.2)).getD 0
noncomputable def ld(f:Str->Int):M->Int
 |.wt n=>f n
 |.bS _ _ a b=>ld f a+ld f b
theorem BJ{a b:Str}(h:strLt a b):a≠b:=λe=>by
 subst e;exact j5 _ h
theorem nS:∀(rs:List (Str×Int)) (n:Str),n∈rs.map (·.1)->br (c_ rs) (Sum.inr n)=some (.int (val rs n))
 |[],n,h=>by simp at h
 |r::rs,n,h=>by
  unfold c_ br val;by_cases e:r.1=n
  .simp[e]
  .have h':n∈rs.map (·.1):=by
    rcases aY.mp (show n∈r.1::rs.map (·.1) from h) with q|q
    .exact absurd q.symm e
    .exact q
   have a:¬(Sum.inr r.1:Key)=Sum.inr n:=λz=>e (Sum.inr.inj z);have:=nS rs n h';simp only[cK,a,gk,j9,e,decide_false];exact this
theorem Cd{rs:List (Str×Int)}(a:jm rs){n:Str}(h:n∈rs.map (·.1)):1<=val rs n/\val rs n<=999999:=by
 unfold val;cases q:rs.find? λr=>r.1=n with
 |none=>
  obtain⟨r,b,e⟩:=aM.mp h;have:=o4.mp q r b;simp[e] at this
 |some r=>
  have:=ni q;exact a.no r this
theorem Bj{kvs:List (Key×D)}{k:Key}{v:D}(h:∀p∈kvs,p.1≠k):b5 kvs k v=kvs++[(k,v)]:=by
 unfold b5;rw[ao];intro z;obtain⟨p,a,e⟩:=jD.mp z;exact h p a (gD e)
theorem HY:∀(rs:List (Str×Int)) (acc:List (Key×D)),(rs.map (·.1)).Pairwise strLt->(∀p∈acc,∀r∈rs,p.1≠Sum.inr r.1)->(c_ rs).foldl (λacc p=>b5 acc p.1 p.2) acc=acc++c_ rs
 |[],acc,_,_=>by simp[c_]
 |r::rs,acc,f,c=>by
  have b:=gU.mp (show(r.1::rs.map (·.1)).Pairwise strLt from f);have e:b5 acc (Sum.inr r.1) (.int r.2)=acc++[(Sum.inr r.1,.int r.2)]:=Bj λp a=>c p a r (aT ..);show(c_ rs).foldl _ (b5 acc (Sum.inr r.1) (.int r.2))=_;rw[e,HY rs _ b.2]
  .simp[c_]
  .intro p a q d
   rcases bX.mp a with z|z
   .exact c p z q (bq _ d)
   .have g:p=(Sum.inr r.1,.int r.2):=by simpa using z
    subst g;exact λe=>BJ (b.1 q.1 (cX d)) (Sum.inr.inj e)
theorem HH:∀rs:List (Str×Int),fy (rs.map bH)=some (c_ rs)
 |[]=>rfl
 |r::rs=>by
  have:=HH rs;simp only[cK,bH,fy,gc,this,c_]
theorem vg{rs:List (Str×Int)}(a:jm rs){A:Ar}{R:DK}(k:R (.ref A.length) (A++[.dct (c_ rs)])):dctP (rs.map bH) A R:=by
 unfold dctP;rw[HH];refine⟨by simp[c_];have:=a.len;omega,?_⟩;unfold m6;rw[HY rs [] a.up (λp h=>by simp at h)];exact k
theorem Fe{a:Ar->Prop}{g:kc}{b:dF}{R:nE}{A:Ar}(hc:a A)(I:bO->Prop):∀(items:List D) (τ:bO),I τ->(∀x∈items,∀τ,I τ->∀c:bO->Ar->Prop,(∀bx,I bx->c bx A)->g x τ A λd j=>b {R with nx:=c,ct:=c,bk:=R.nx} d j)->(∀τ,I τ->R.nx τ A)->nM a g b R items τ A
 |[],τ,e,_,h=>⟨hc,h τ e⟩
 |x::xs,τ,e,i,h=>⟨hc,i x (aT ..) τ e _ λbx f=>Fe hc I xs bx f (λy k=>i y (bq _ k)) h⟩
noncomputable def jw:M->Str->List (Str×Str)
 |.wt n,w=>[(w,n)]
 |.bS _ _ a b,w=>jw a (w++"l")++jw b (w++"r")
theorem p8:∀(m:M) (w:Str),(jw m w).map (·.2)=m.names
 |.wt n,w=>rfl
 |.bS _ _ a b,w=>by
  show List.map _ (_++_)=a.names++b.names;rw[dP,p8 a,p8 b]
theorem sG(m:M)(w:Str):(jw m w).length=m.names.length:=by rw[<-p8 m w,aK]
noncomputable def kH(p:Str×Str):D:=.tup [.str p.1,.str p.2]
abbrev Dt:Ct:=SV λds v=>∃r:Str×Int,ds=[bH r]/\Nm r.1/\(1<=r.2/\r.2<=999999)/\v=.bl true
abbrev De:Ct:=SV λds v=>∃rs,ds=[fc rs]/\jm rs/\v=.bl true
abbrev zb:Ct:=SV λds v=>∃m rs,ds=[enc m,fc rs]/\jm rs/\m.deep<=5/\(∀n∈m.names,n∈rs.map (·.1))/\v=.aG
abbrev uK(d:Nat):Ct:=SL λds v=>∃m w,ds=[enc m,.str w]/\m.deep<d/\w.length+d<=100/\d<=8/\v=(jw m w).map kH
def Dh(d:Nat):Ct:=λds A R _=>∃m r rs,ds=[enc m,.ref r]/\A[r]?=some (.dct (c_ rs))/\jm rs/\m.deep<=d/\(∀n∈m.names,n∈rs.map (·.1))/\∀A',Gr A A'->R (.int (ld (val rs) m)) A'
theorem AB(f:Str->Int):∀m:M,(m.names.map f).sum=ld f m
 |.wt n=>by simp[aX.names,ld]
 |.bS _ _ a b=>by
  show List.sum (List.map f (a.names++b.names))=ld f a+ld f b;rw[dP,List.sum_append,AB f a,AB f b]
theorem pJ{k:Option Nat}{fr:bO}{te:aP}{a:Ar->Prop}{R:List D->Ar->Prop}(f:D->D):∀(items ys:List D) (A:Ar),(∀A',Gr A A'->a A')->(∀x∈items,∀A',Gr A A'->∃vs,nc k x=some vs/\∀Q:DK,(∀b,Gr A' b->Q (f x) b)->te (vs.map some++fr) A' Q)->ys.length+items.length<=sizeLine->(∀A',Gr A A'->R (ys++items.map f) A')->jO a k fr oH te R items ys A
 |[],ys,A,hc,_,_,h=>⟨hc A Gr.refl,by simpa using h A Gr.refl⟩
 |x::xs,ys,A,hc,d,e,h=>by
  obtain⟨vs,i,j⟩:=d x (aT ..) A Gr.refl;refine⟨hc A Gr.refl,?_⟩;rw[i];refine j _ λl c=>⟨by simp at e;omega,pJ f xs (ys++[f x]) l (λA' g=>hc A' (c.trans g)) (λy m A' g=>d y (bq _ m) A' (c.trans g)) (by simp at e ⊢;omega) (λA' g=>by simpa using h A' (c.trans g))⟩
theorem Nm.ok{n:Str}(h:Nm n):canLay0 (.str n)=true:=by
 have e:n.cps.all (λc=>decide (c<0x110000))=true:=by
  rw[<-Array.all_toList,all_eq_true];intro c hc;have:=h.az c hc;exact eL ω
 simpa[canLay0,strOk] using e
theorem xF:∀ss:List Str,f6 (ss.map D.str)=true
 |[]=>rfl
 |s::r=>by simp[f6,gf,xF r]
theorem s8:∀ss:List Str,bR (ss.map D.str)=ss.map PyData.str
 |[]=>rfl
 |s::r=>by simp[bR,toQ,s8 r]
theorem vP:∀ss:List Str,(∀n∈ss,Nm n)->canLayAll0 (ss.map PyData.str)=true
 |[],_=>by simp[canLayAll0]
 |s::r,h=>by
  have h1:=(h s (aT ..)).ok;have h2:=vP r λn a=>h n (bq _ a);simp[canLayAll0,h1,h2]
theorem zS:∀ss:List Str,depthAll (ss.map PyData.str)=0
 |[]=>by simp[depthAll]
 |s::r=>by simp[depthAll,PyData.depth,zS r]
theorem FA:∀ss a:List Str,eqvAll (ss.map PyData.str) (a.map PyData.str)=decide (ss=a)
 |[],[]=>by simp[eqvAll]
 |[],_::_=>by simp[eqvAll]
 |_::_,[]=>by simp[eqvAll]
 |s::r,t::u=>by
  simp only[cK,eqvAll,PyData.eqv,FA r u];by_cases h1:s=t
  .by_cases h2:r=u<;>simp[h1,h2]
  .simp[h1]
theorem Oa{A:Ar}{r q:Nat}{ss a:List Str}{R:DK}(h1:A[r]?=some (.lst (ss.map D.str)))(h2:A[q]?=some (.lst (a.map D.str)))(n1:∀n∈ss,Nm n)(n2:∀n∈a,Nm n)(k:R (.bl (decide (ss=a))) A):gK false (.ref r) (.ref q) A R:=by
 have b:cV A (.ref r)=.list (ss.map PyData.str):=by unfold cV;simp only[h1,s8]
 have c:cV A (.ref q)=.list (a.map PyData.str):=by unfold cV;simp only[h2,s8]
 unfold gK;rw[b,c];refine⟨by unfold i7;simp only[h1,xF],by unfold i7;simp only[h2,xF],by simpa[canLay0] using vP ss n1,by simpa[canLay0] using vP a n2,by simp[PyData.depth,zS],?_⟩;rw[ao bU];show R (.bl (PyData.eqv (.list _) (.list _))) A;rw[show PyData.eqv (.list (ss.map PyData.str)) (.list (a.map PyData.str))=decide (ss=a) by simp only[PyData.eqv,FA]];exact k
theorem fm{A:Ar}{r:Nat}{kvs:List (Key×D)}{y v:D}{k:Key}{R:DK}(h:A[r]?=some (.dct kvs))(a:gc y=some k)(b:br kvs k=some v)(q:R v A):lH r y A R:=by
 unfold lH;simp only[h,a,b];exact q
theorem iG{A:Ar}{r:Nat}{kvs:List (Key×D)}{y:D}{k:Key}{R:DK}{neg:Bool}(h:A[r]?=some (.dct kvs))(a:gc y=some k)(q:R (.bl (if neg then !(br kvs k).isSome else (br kvs k).isSome)) A):inR neg y r A R:=by
 unfold inR;simp only[h,a];exact q
noncomputable def rd(a b:Int):Int×Int:=(a/(Int.gcd a b:Int),b/(Int.gcd a b:Int))
abbrev zc:Ct:=SV λds v=>∃a b:Int,ds=[.int a,.int b]/\0<=a/\0<=b/\v=.int (Int.gcd a b:Int)
abbrev zk:Ct:=SV λds v=>∃a b:Int,ds=[.int a,.int b]/\0<a/\0<b/\a<2 ^ 2000/\v=.tup [.int (rd a b).1,.int (rd a b).2]
structure Bk(rs:List (Str×Int))(m:M):Prop where
 ok:jm rs
 nm:∀n∈m.names,n∈rs.map (·.1)
theorem Bk.left{rs:List (Str×Int)}{l r:Int}{a b:M}(h:Bk rs (.bS l r a b)):Bk rs a:=⟨h.ok,λn c=>h.nm n (by simp[aX.names,c])⟩
theorem Bk.right{rs:List (Str×Int)}{l r:Int}{a b:M}(h:Bk rs (.bS l r a b)):Bk rs b:=⟨h.ok,λn c=>h.nm n (by simp[aX.names,c])⟩
theorem VT{a b:Int}(d:0<a)(e:0<b):1<=(rd a b).1/\1<=(rd a b).2:=by
 have c:0<(Int.gcd a b:Int):=by
  have:=Int.gcd_pos_of_ne_zero_left b (show a≠0 by omega);omega
 have f:(Int.gcd a b:Int)∣a:=ux ..;have g:(Int.gcd a b:Int)∣b:=uy ..;unfold rd;constructor
 .obtain⟨k,h⟩:=f
  show 1<=a/_;rw[Ck c];have:=le_of_dvd d (ux a b);omega
 .show 1<=b/_
  rw[Ck c];have:=le_of_dvd e (uy a b);omega
theorem VS{a b:Int}(c:0<a)(d:0<b):(rd a b).1<=a/\(rd a b).2<=b:=by
 unfold rd;exact⟨j8 _ ω,j8 _ ω⟩
theorem Gr.len{A B:Ar}(a:Gr A B):A.length<=B.length:=by
 obtain⟨T,rfl⟩:=a;simp
noncomputable def cst(d:Nat):Nat:=5*2 ^ d - 4
theorem MC(d:Nat):cst (d+1)=4+2*cst d:=by
 unfold cst;have:0<2 ^ d:=pow_pos δ;rw[pow_succ];omega
theorem MB(d:Nat):1<=cst d:=by
 unfold cst;have:0<2 ^ d:=pow_pos δ;omega
structure Dr(t:Nat)(A A':Ar)(n k:Nat):Prop where
 but:cH t A A'
 tw:Tw t (n+k) A'
def Ds(d:Nat):Ct:=λds A R _=>∃ns t q nms n,ds=[.fl ns,.ref t,.ref q,.int ((d:Int) - 1)]/\0<d/\q≠t/\A[q]?=some (.lst (nms.map D.str))/\nms≠[]/\(∀x∈nms,Nm x)/\Tw t n A/\n+cst d<=1000000/\∀m A',Wf m->m.deep<d->(∀x∈m.names,x∈nms)->Dr t A A' n (cst d)->R (enc m) A'
def C9(d:Nat):Ct:=λds A R _=>∃m q n,ds=[enc m,.ref q]/\Wf m/\m.deep<d/\d<=8/\Tw q n A/\n+2 ^ d<=1000000/\∀m' A',Wf m'->m'.deep=m.deep->Dr q A A' n (2 ^ d)->R (enc m') A'
abbrev zf(d:Nat):Ct:=SL λds v=>∃m,ds=[enc m]/\m.deep<d/\d<=8/\v=m.names.map D.str
def Dy:Ct:=λds A R _=>∃m,ds=[enc m]/\m.deep<=5/\∀(A':Ar) (r:Nat) (ys:List Str),Gr A A'->A.length<=r->A'[r]?=some (.lst (ys.map D.str))->ys.Pairwise strLt->(∀x,x∈ys↔x∈m.names)->R (.ref r) A'
theorem Rr{z:Str}{i:Int}{c:Nat}{A:Ar}{R:DK}(h:cY z.cps.toList i=some c)(hz:z.length<=sizeLine)(k:R (.str ⟨#[c]⟩) A):sr (.str z) (.int i) A R:=by
 show(match cY z.cps.toList i with|some c=>z.length<=sizeLine/\R (.str ⟨#[c]⟩) A|none=>False);rw[h];exact⟨hz,k⟩
def DG(d:Nat):Ct:=λds A R _=>∃ns t n,ds=[.fl ns,.ref t,.int ((d:Nat):Int)]/\Tw t n A/\n+200<=1000000/\∀m A',Wf m->m.deep<=d->Dr t A A' n 200->R (enc m) A'
theorem Mz{d:Nat}(h:d<=4):cst (d+1)<=156:=by
 have e:d=0\/d=1\/d=2\/d=3\/d=4:=ω
 rcases e with rfl|rfl|rfl|rfl|rfl<;>decide
end DP
namespace DP
open L2
theorem uX{α:Type}{k:Option Nat}{fr:bO}{tt:eU}{te:aP}{d:Ar->Prop}{R:List D->Ar->Prop}(g:α->D)(p:α->Bool)(f:α->D):∀(xs:List α) (ys:List D) (A:Ar),(∀a,Gr A a->d a)->(∀x∈xs,∀a,Gr A a->∃vs,nc k (g x)=some vs/\(∀Q:Bool->Ar->Prop,(∀b,Gr a b->Q (p x) b)->tt (vs.map some++fr) a Q)/\∀b,Gr a b->∀Q:DK,(∀e,Gr b e->Q (f x) e)->te (vs.map some++fr) b Q)->ys.length+xs.length<=sizeLine->(∀a,Gr A a->R (ys++(xs.filter p).map f) a)->jO d k fr tt te R (xs.map g) ys A
 |[],ys,A,hc,_,_,h=>⟨hc A Gr.refl,by simpa using h A Gr.refl⟩
 |x::xs,ys,A,hc,i,n,h=>by
  obtain⟨vs,o,q,r⟩:=i x (aT ..) A Gr.refl;refine⟨hc A Gr.refl,?_⟩;rw[o];simp at n;refine q _ λb c=>?_;cases m:p x with
  |true=>
   rw[yD m] at h;exact r b c _ λe j=>⟨ω,uX g p f xs (ys++[f x]) e (λa z=>hc a ((c.trans j).trans z)) (λy l a z=>i y (bq _ l) a ((c.trans j).trans z)) (by simp;omega) λa z=>by simpa using h a ((c.trans j).trans z)⟩
  |false=>
   rw[yC (by simp[m])] at h;exact uX g p f xs ys b (λa z=>hc a (c.trans z)) (λy l a z=>i y (bq _ l) a (c.trans z)) ω λa z=>h a (c.trans z)
theorem Gr.set{A B:Ar}{r:Nat}{c:C}(g:Gr A B)(h:A.length<=r):Gr A (B.set r c):=by
 obtain⟨T,rfl⟩:=g;exact⟨T.set (r - A.length) c,by rw[List.set_append_right _ _ h]⟩
open MA
theorem Wf.left{l r:Int}{a b:M}(h:Wf (.bS l r a b)):Wf a:=⟨h.arms.2.2.2.2.1,λn c=>h.nm n (by simp[aX.names,c])⟩
theorem Wf.right{l r:Int}{a b:M}(h:Wf (.bS l r a b)):Wf b:=⟨h.arms.2.2.2.2.2,λn c=>h.nm n (by simp[aX.names,c])⟩
theorem au.of_get{mg:aB}{ι:Io}{H:Hp}{n:Nat}:∀{ds:List D} {vs:List V},ds.length=vs.length->(∀(i:Nat) d v,ds[i]?=some d->vs[i]?=some v->RV mg ι n H d v)->au mg ι n H ds vs
 |[],[],_,_=>rfl
 |[],_::_,h,_=>by cases h
 |_::_,[],h,_=>by cases h
 |d::ds,v::vs,h,k=>⟨v,vs,rfl,k 0 d v rfl rfl,au.of_get (by simpa using h) λi d v h1 h2=>k (i+1) d v (by simpa using h1) (by simpa using h2)⟩
theorem RA.Og{mg:aB}{A:Ar}{ι:Io}{H H':Hp}(R:RA mg ι H A)(g:k_ H H'):Ext A ι H A ι H':=⟨aF _,λ_ _=>rfl,R.im,λb u h _=>g b u h,λr h1 h2=>absurd h2 ω,λb u h=>⟨u,g b u h⟩⟩
@[irreducible] def tR(a b:Nat)(A:Ar)(R:DK):Prop:=match A[a]?,A[b]? with
 |some (.lst xs),some (.lst ys)=>R (.tup ((xs.zip ys).map λp=>.tup [p.1,p.2])) A
 |_,_=>False
noncomputable def M1(n:dw):aP:=λτ A R=>n τ A λvs A1=>match vs with
 |[.ref a,.ref b]=>tR a b A1 R
 |_=>False
theorem Nn{X:Cx}{N:En}{a b:Expr}{n:dw}{p1 p2 pos1 pos2:Pos}(r:X.mg "tuple"=none)(s:X.mg "zip"=none)(hc:X.calm=true)(O:PA X [a,b] (fO X.mg N n))(u:Gl X "tuple":=by rfl)(v:Gl X "zip":=by rfl)
  (P:starEach [a,b] X.env=[(false,eval a X.env),(false,eval b X.env)]:=by rfl)(w:starEach [b] X.env=[(false,eval b X.env)]:=by rfl)
  (hz:starEach [.Call (.Name "zip" p2) [a,b] [] pos2] X.env=[(false,eval (.Call (.Name "zip" p2) [a,b] [] pos2) X.env)]:=by rfl):
  PE X (.Call (.Name "tuple" p1) [.Call (.Name "zip" p2) [a,b] [] pos2] [] pos1) (up X.mg N (M1 n)):=
 dJ (UR u r j7 v s η hc O P w hz) λσ H Q q=>by
  obtain⟨A,ι,τ,R,S,q,k⟩:=q
  refine⟨A,ι,τ,_,S,q,λvs I z H1 us e T m o=> ?_⟩
  match vs,e,o with
  |[.ref x,.ref y],e,o=>
   obtain⟨_,_,rfl,⟨_,rfl⟩,_,_,rfl,⟨_,rfl⟩,rfl⟩:=o
   have e:tR x y I R:=e
   unfold tR at e
   split at e
   .rename_i ds es U V
    obtain⟨xs,h1,J⟩:=m.lst U
    obtain⟨ys,h2,K⟩:=m.lst V
    refine⟨_,_,xs,ys,rfl,aV.of h1,aV.of h2,λl H' ps L hl W f g=> ?_⟩
    have E:=m.Og L
    refine k _ I z H' _ e (T.trans E) (m.fix E L) ⟨l,ps,rfl,W,au.of_get ?_ λi d p hd B=> ?_⟩
    .rw[f,aK,List.length_zip,au.length J,au.length K]
    .obtain⟨t,M,C,rfl,Y,Z,ht⟩:=g i p B
     rw[ck] at hd
     cases c:(ds.zip es)[i]? with
     |none=>rw[c] at hd;cases hd
     |some pr=>
      rw[c] at hd
      cases hd
      have D:ds[i]? =some pr.1:=by
       rw[List.getElem?_zip_eq_some] at c
       exact c.1
      have hd2:es[i]? =some pr.2:=by
       rw[List.getElem?_zip_eq_some] at c
       exact c.2
      obtain⟨o,h,F⟩:=au.get J D
      obtain⟨v2,j,G⟩:=au.get K hd2
      rw[Y] at h
      rw[Z] at j
      cases h
      cases j
      exact⟨t,[M,C],rfl,ht,M,[C],rfl,RV.ext E _ _ F,C,[],rfl,RV.ext E _ _ G,rfl⟩
   .exact e.elim
@[irreducible] def xK(r:Nat)(A:Ar)(R:DK):Prop:=match A[r]? with
 |some (.dct kvs)=>∃ns:List Str,kvs.map (·.1)=ns.map Sum.inr/\ns.Nodup/\ns.length<64/\∀ys:List Str,ys.Pairwise strLt->(∀x,x∈ys↔x∈ns)->R (.ref A.length) (A++[.lst (ys.map D.str)])
 |_=>False
noncomputable def J2:gH:=λvs A R=>match vs with
 |[.ref r]=>xK r A R
 |_=>False
theorem RK.keys{mg:aB}{ι:Io}{H:Hp}{n:Nat}:∀{ds:List (Key×D)} {vs:List (Key×V)},RK mg ι n H ds vs->vs.map (·.1)=ds.map (·.1)
 |[],vs,h=>by have h':vs=[]:=h;rw[h'];rfl
 |d::ds,vs,h=>by
  obtain⟨x,r,rfl,_,a⟩:=h;simp[RK.keys a]
theorem zM{mg:aB}:iy mg (λxs H Q=>∃(d:Addr) (kvs:List (Key×V)) (ns:List Str),xs=[.ref d]/\H d=some (.dK kvs)/\kvs.map (·.1)=ns.map Sum.inr/\ns.Nodup/\ns.length<64/\
  ∀(l:Addr) (ys:List Str),H l=none->ys.Pairwise strLt->(∀x,x∈ys↔x∈ns)->Q (.ref l) (upd H l (.lst (ys.map V.str)))) J2:=by
 intro ds A ι H m R Q ra rs h k;unfold J2 at h;split at h
 .obtain⟨_,_,rfl,⟨_,rfl⟩,rfl⟩:=rs
  unfold xK at h;split at h
  .rename_i kvs e
   obtain⟨ns,h1,h2,a,b⟩:=h;obtain⟨xs,c,f⟩:=ra.dct e;exact⟨_,xs,ns,rfl,c,by rw[RK.keys f,h1],h2,a,λl ys g i j=>jT k ra (au.strs ys) (b ys i j) g⟩
  .exact h.elim
 .exact h.elim
theorem By{A:Ar}{r:Nat}{kvs:List (Key×D)}{ns:List Str}{R:DK}(h:A[r]?=some (.dct kvs))(b:kvs.map (·.1)=ns.map Sum.inr)(c:ns.Nodup)(a:ns.length<64)(k:∀ys:List Str,ys.Pairwise strLt->(∀x,x∈ys↔x∈ns)->R (.ref A.length) (A++[.lst (ys.map D.str)])):xK r A R:=by
 unfold xK;simp only[h];exact⟨ns,b,c,a,k⟩
theorem YY{A:Ar}{a b:Nat}{xs ys:List D}{R:DK}(h1:A[a]?=some (.lst xs))(h2:A[b]?=some (.lst ys))(k:R (.tup ((xs.zip ys).map λp=>.tup [p.1,p.2])) A):tR a b A R:=by
 unfold tR;simp only[h1,h2];exact k
open MA
noncomputable def hr2(w:Str)(x y:Int):List (Str×Str):=if y<x then [(w,"left")] else if x<y then [(w,"right")] else []
noncomputable def jb(f:Str->Int):M->Str->List (Str×Str)
 |.wt _,_=>[]
 |.bS l r a b,w=>hr2 w (l*ld f a) (r*ld f b)++jb f a (w++"l")++jb f b (w++"r")
theorem Gk(w:Str)(x y:Int):(hr2 w x y).length<=1:=by
 unfold hr2;split
 .simp
 .split<;>simp
theorem tP(f:Str->Int):∀(m:M) (w:Str),(jb f m w).length+1<=2 ^ m.deep
 |.wt _,_=>by simp[jb,aX.deep]
 |.bS l r a b,w=>by
  show(hr2 w (l*ld f a) (r*ld f b)++jb f a (w++"l")++jb f b (w++"r")).length+1<=2 ^ (max a.deep b.deep+1);rw[cM,cM,pow_succ];have h1:=Gk w (l*ld f a) (r*ld f b);have h2:=tP f a (w++"l");have c:=tP f b (w++"r");have d:2 ^ a.deep<=2 ^ max a.deep b.deep:=fj δ (tW _ _);have e:2 ^ b.deep<=2 ^ max a.deep b.deep:=fj δ (tX _ _);omega
noncomputable def bC:M->Str->Rat->List (Str×Str×Rat)
 |.wt n,w,x=>[(w,n,x)]
 |.bS l r a b,w,x=>bC a (w++("l":Str)) (x*((r:Rat)/((l+r:Int):Rat)))++bC b (w++("r":Str)) (x*((l:Rat)/((l+r:Int):Rat)))
theorem m7:∀(m:M) (w:Str) (x:Rat),(bC m w x).length=m.names.length
 |.wt _,_,_=>rfl
 |.bS _ _ a b,w,x=>by
  show List.length (_++_)=List.length (_++_);rw[cM,cM,m7 a,m7 b]
theorem iZ{m:M}(h:m.deep<=5):m.names.length<=32:=
 cC (aX.lJ m) (fj δ h:2 ^ m.deep<=2 ^ 5)
theorem sY{j k:Nat}(h:j<=k):(18:Int) ^ j<=18 ^ k:=by
 have:(18:Nat) ^ j<=18 ^ k:=fj δ h;exact_mod_cast this
theorem Be(k:Nat):(1:Int)<=18 ^ k:=by
 have:1<=(18:Nat) ^ k:=Nat.one_le_pow _ _ δ;exact_mod_cast this
theorem E5{D a:Int}{j k:Nat}(h:D*18 ^ (max j k+1)<=1000000000)(hd:a<=D*18)(c:0<D):a*18 ^ j<=1000000000/\a*18 ^ k<=1000000000/\D<=1000000000:=by
 have e:D*18 ^ (max j k+1)=D*18*18 ^ max j k:=by rw[jB,nj (18 ^ max j k) 18,<-qz]
 rw[e] at h;have p1:=sY (tW j k);have p2:=sY (tX j k);have b:=Be (max j k);have d:=Be j;have f:=Be k;refine⟨eB (dQ hd p1 ω ω) h,eB (dQ hd p2 ω ω) h,?_⟩;have:D*1<=D*18*18 ^ max j k:=dQ ω b ω ω;omega
theorem G0{n:Nat}(h:n<2 ^ 2000):n.log2<9000:=by
 by_cases h0:n=0
 .rw[h0];decide+kernel
 .exact(Nat.log2_lt h0).mpr (cO h (fj δ δ))
theorem Ef:∀(xs:List Rat) (x:Rat) (b:Int),bot (xs++[x]) b=bot xs b*(rf x).2/(Int.gcd (bot xs b) (rf x).2:Int)
 |[],x,b=>rfl
 |y::r,x,b=>by
  show bot (r++[x]) _=_;rw[Ef r x];rfl
theorem F1:∀(ns:List Int) (n d:Int),gw (ns++[n]) d=(Int.gcd (gw ns d) n:Int)
 |[],n,d=>rfl
 |m::r,n,d=>by
  show gw (r++[n]) _=_;rw[F1 r n];rfl
structure iN(x:Rat):Prop where
 pos:0<x
 num:(rf x).1<=2000000
 den:(rf x).2<=2000000
theorem HS{c a b:Nat}(hc:0<c)(h:a<=b):(c:Int) ^ a<=(c:Int) ^ b:=by
 rw[<-qA,<-qA];exact Int.ofNat_le.mpr (fj hc h)
theorem Vh{a b:Nat}(h:a<=b):(2000000:Int) ^ a<=2000000 ^ b:=HS (c:=2000000) δ h
theorem Hh{n:Int}{c k:Nat}(h0:0<n)(h:n<=(c:Int) ^ k):n.natAbs<=c ^ k:=by
 have:(n.natAbs:Int)<=(c:Int) ^ k:=ω
 rw[<-qA] at this;exact Int.ofNat_le.mp this
theorem S2{n:Int}{k:Nat}(h0:0<n)(h:n<=2000000 ^ k):n.natAbs<=2000000 ^ k:=Hh (c:=2000000) h0 h
theorem L4{xs:List Rat}(h:∀x∈xs,iN x)(a:xs.length<=32):bot xs 1<=2000000 ^ 32:=by
 have:=bot_le 2000000 δ xs 1 δ λx b=>(h x b).den;rw[one_mul] at this;exact eB this (Vh a)
theorem Y4{xs:List Rat}(h:∀x∈xs,iN x)(c:xs.length<=32){n:Int}(d:n∈ups xs):0<n/\n<=2000000 ^ 33:=by
 obtain⟨x,a,rfl⟩:=aM.mp d;have f:=h x a;refine⟨B_ a f.pos,?_⟩;have e:=L4 h c;obtain⟨b,_,_⟩:=pH xs 1 δ;have h1:bot xs 1/(rf x).2<=bot xs 1:=j8 _ (dR b);have h0:0<=bot xs 1/(rf x).2:=Int.ediv_nonneg (dR b) (dR (cR x));have g:=d8 f.pos;rw[show(33:Nat)=32+1 from rfl,jB,nj _ (2000000:Int)];exact dQ f.num (eB h1 e) h0 δ
theorem Sn{n:Int}(h0:0<n)(h:n<=2000000 ^ 33):n.natAbs.log2<9000:=
 G0 (Nat.lt_of_le_of_lt (S2 h0 h) η)
def Cons{W N S:Type}(l:List (W×N×S)):Prop:=∀a∈l,∀b∈l,a.2.1=b.2.1->a.2.2=b.2.2
theorem found{W N S:Type}[DecidableEq N]{l:List (W×N×S)}{n:N}{p:W×N×S}(h:l.find? (λp=>decide (p.2.1=n))=some p):p.2.1=n:=by
 have:=find?_some h;simpa using this
theorem zA{W N S:Type}[DecidableEq N][DecidableEq S]:∀(r pre:List (W×N×S)),cP pre r=none->Cons pre->Cons (pre++r)
 |[],pre,_,h=>by rw[lX];exact h
 |(g,n,s)::r,pre,l,h=>by
  have e:pre++(g,n,s)::r=(pre++[(g,n,s)])++r:=θ
  rw[e];cases j:pre.find? (λp=>decide (p.2.1=n)) with
  |none=>
   have i:cP (pre++[(g,n,s)]) r=none:=by
    have:=l;unfold cP at this;rw[j] at this;exact this
   refine zA r _ i λa ha b hbm d=>?_;have no:∀c∈pre,c.2.1≠n:=λc hc z=>by
    have:=o4.mp j c hc;exact this (eL z)
   rcases bX.mp ha with ha|ha<;>rcases bX.mp hbm with hbm|hbm
   .exact h a ha b hbm d
   .rw[bI.mp hbm] at d
    exact absurd d (no a ha)
   .rw[bI.mp ha] at d
    exact absurd d.symm (no b hbm)
   .rw[bI.mp ha,bI.mp hbm]
  |some p=>
   have f:=l;unfold cP at f;rw[j] at f;by_cases es:p.2.2=s
   .have i:cP (pre++[(g,n,s)]) r=none:=by
     have:(if p.2.2=s then cP (pre++[(g,n,s)]) r else some (p.1,g))=none:=f;rwa [aA es] at this
    have m:=ni j;have k:p.2.1=n:=found j;refine zA r _ i λa ha b hbm d=>?_;have to:∀c∈pre,c.2.1=n->c.2.2=s:=λc hc z=>by rw[h c hc p m (by rw[z,k]),es]
    rcases bX.mp ha with ha|ha<;>rcases bX.mp hbm with hbm|hbm
    .exact h a ha b hbm d
    .rw[bI.mp hbm] at d ⊢
     exact to a ha d
    .rw[bI.mp ha] at d ⊢
     exact(to b hbm d.symm).symm
    .rw[bI.mp ha,bI.mp hbm]
   .have:(if p.2.2=s then cP (pre++[(g,n,s)]) r else some (p.1,g))=none:=f
    rw[ao es] at this;cases this
theorem tG:∀(m:M) (w:Str) (x:Rat),(bC m w x).map (·.2.1)=m.names
 |.wt _,_,_=>rfl
 |.bS _ _ a b,w,x=>by
  show((bC a _ _++bC b _ _).map (·.2.1))=a.names++b.names;rw[dP,tG a,tG b]
theorem BA:∀(m:M) (w:Str) (x:Rat),(bC m w x).map (·.2.2)=m.sh x
 |.wt _,_,_=>rfl
 |.bS _ _ a b,w,x=>by
  show((bC a _ _++bC b _ _).map (·.2.2))=a.sh _++b.sh _;rw[dP,BA a,BA b]
noncomputable def shr(m:M):Str->Rat:=λx=>match (bC m "" 1).find? (λp=>decide (p.2.1=x)) with|some p=>p.2.2|none=>0
theorem BE{m:M}(h:cP [] (bC m "" 1)=none):(∀a∈bC m "" 1,a.2.2=shr m a.2.1)/\m.names.map (shr m)=m.sh 1:=by
 have hc:=zA (bC m "" 1) [] h (by intro a b;simp at b);rw[fC] at hc;have key:∀a∈bC m "" 1,a.2.2=shr m a.2.1:=λa b=>by
  show _=(match (bC m "" 1).find? (λp=>decide (p.2.1=a.2.1)) with|some p=>p.2.2|none=>0);cases c:(bC m "" 1).find? (λp=>decide (p.2.1=a.2.1)) with
  |none=>exact absurd (eL rfl) (o4.mp c a b)
  |some p=>exact(hc p (ni c) a b (found c)).symm
 refine⟨key,?_⟩;rw[<-tG m "" 1,<-BA m "" 1,bK];exact tZ λa b=>(key a b).symm
theorem num_mul{t:Rat}{a b:Int}(c:0<b)(d:0<=(rf t).1*a):(rf (t*((a:Rat)/(b:Rat)))).1<=(rf t).1*a:=by
 rw[<-Bt,<-xJ (f_ (cR t) c)];exact j8 _ d
theorem BD:∀(m:M) (x:Rat) (B:Int),m.arms->0<x->(rf x).1<=B->∀s∈m.sh x,(rf s).1<=B*18 ^ m.deep
 |.wt _,x,B,_,h1,h2,s,hs=>by
  have:s=x:=by simpa[aX.sh] using hs
  subst this;simpa[aX.deep] using h2
 |.bS l r a b,x,B,h,h1,h2,s,hs=>by
  obtain⟨c,o,d,p,e,f⟩:=h;have g:0<B:=yx (d8 h1) h2;have np:=d8 h1;have i:(rf (x*((r:Rat)/((l+r:Int):Rat)))).1<=B*18:=by
   refine eB (num_mul ω (mul_nonneg ω ω)) ?_;exact dQ h2 ω ω ω
  have j:(rf (x*((l:Rat)/((l+r:Int):Rat)))).1<=B*18:=by
   refine eB (num_mul ω (mul_nonneg ω ω)) ?_;exact dQ h2 ω ω ω
  have p1:0<x*((r:Rat)/((l+r:Int):Rat)):=aX.step_pos c d h1;have p2:0<x*((l:Rat)/((l+r:Int):Rat)):=by
   have:=aX.step_pos (l:=r) (r:=l) d c h1;rwa [add_comm r l] at this
  have up:∀k:Nat,k<=max a.deep b.deep->B*18*18 ^ k<=B*18 ^ (max a.deep b.deep+1):=λk n=>by
   rw[jB,qz,nj 18 (18 ^ k)];refine qJ ?_ (dR g);exact Co (sY n) δ
  rcases bX.mp (show s∈a.sh _++b.sh _ from hs) with hs|hs
  .exact eB (BD a _ _ e p1 i s hs) (up _ (tW _ _))
  .exact eB (BD b _ _ f p2 j s hs) (up _ (tX _ _))
theorem Xw{m:M}(a:m.arms)(f:m.deep<=5):∀s∈m.sh 1,0<s/\(rf s).1<=1889568/\(rf s).2<=1889568:=λs b=>by
 obtain⟨g,c⟩:=aX.BC m 1 1 a δ δ s b;have d:=BD m 1 1 a δ δ s b;have p:=sY f;have e:(18:Int) ^ 5=1889568:=δ
 rw[e] at p;rw[one_mul] at c d;exact⟨g,eB d p,eB c p⟩
theorem xO{m:M}(a:m.arms)(b:m.deep<=5)(h:cP [] (bC m "" 1)=none){x:Str}(c:x∈m.names):iN (shr m x):=by
 have:shr m x∈m.sh 1:=by
  rw[<-(BE h).2];exact aM.mpr ⟨x,c,rfl⟩
 obtain⟨h1,h2,d⟩:=Xw a b _ this;exact⟨h1,ω,ω⟩
theorem eG{a:Ar->Prop}{g:kc}{b:dF}{R:nE}(J:List D->bO->Ar->Prop)(hc:∀rest τ A,J rest τ A->a A)
  (e:∀x rest τ A,J (x::rest) τ A->∀c:bO->Ar->Prop,(∀bx A',J rest bx A'->c bx A')->g x τ A λd h=>b {R with nx:=c,ct:=c,bk:=R.nx} d h)(f:∀τ A,J [] τ A->R.nx τ A):∀(items:List D) (τ:bO) (A:Ar),J items τ A->nM a g b R items τ A
 |[],τ,A,j=>⟨hc _ _ _ j,f _ _ j⟩
 |x::rest,τ,A,j=>⟨hc _ _ _ j,e _ _ _ _ j _ λbx A' i=>eG J hc e f rest bx A' i⟩
theorem pI{k:Option Nat}{fr:bO}{te:aP}{a:Ar->Prop}{R:List D->Ar->Prop}(J:List D->List D->Ar->Prop)(hc:∀rest ys A,J rest ys A->a A)(c:∀rest ys A,J rest ys A->ys.length<=sizeLine)
  (d:∀x rest ys A,J (x::rest) ys A->∃vs,nc k x=some vs/\∀Q:DK,(∀y b,J rest (ys++[y]) b->Q y b)->te (vs.map some++fr) A Q)(e:∀ys A,J [] ys A->R ys A):∀items ys A,J items ys A->jO a k fr oH te R items ys A
 |[],ys,A,j=>⟨hc _ _ _ j,e _ _ j⟩
 |x::rest,ys,A,j=>by
  obtain⟨vs,g,q⟩:=d _ _ _ _ j;refine⟨hc _ _ _ j,?_⟩;rw[g];refine q _ λy b f=>⟨?_,pI J hc c d e rest _ _ f⟩;have:=c _ _ _ f;simp at this;omega
theorem zH{k:Option Nat}{fr:bO}{tt:eU}{te:aP}{a:Ar->Prop}{R:List D->Ar->Prop}{A:Ar}(hc:a A)(p:D->Bool)(f:D->D):∀(items ys:List D),(∀x∈items,∃vs,nc k x=some vs/\(∀Q:Bool->Ar->Prop,Q (p x) A->tt (vs.map some++fr) A Q)/\∀Q:DK,Q (f x) A->te (vs.map some++fr) A Q)->ys.length+items.length<=sizeLine->R (ys++(items.filter p).map f) A->jO a k fr tt te R items ys A
 |[],ys,_,_,h=>⟨hc,by simpa using h⟩
 |x::xs,ys,b,e,h=>by
  obtain⟨vs,g,i,j⟩:=b x (aT ..);refine⟨hc,?_⟩;rw[g];simp at e;refine i _ ?_;cases d:p x with
  |true=>
   rw[yD d] at h;exact j _ ⟨ω,zH hc p f xs (ys++[f x]) (λy c=>b y (bq _ c)) (by simp;omega) (by simpa using h)⟩
  |false=>
   rw[yC (by simp[d])] at h;exact zH hc p f xs ys (λy c=>b y (bq _ c)) ω h
theorem Gr.HB{A d A':Ar}{t:Nat}(g:Gr A d)(e:A.length<=t)(b:cH t d A'):Gr A A':=by
 have key:∀q c,A[q]?=some c->A'[q]?=some c:=λq c h=>b q c (by have:=cy h;omega) (g.get h);refine⟨A'.drop A.length,qN λq=>?_⟩;by_cases a:q<A.length
 .rw[iu a,a_ a]
  exact key q _ (a_ a)
 .rw[qQ ω,List.getElem?_drop]
  congr 1;omega
end DP
namespace L2
open PySem.SeqAt
def o7(op:CmpOp)(A:Around)(s:Shared)(y x:Value)(b:Bool):Prop:=∀(prog:Program) (w:World) (E:aU) (Q:aU),Q (.bool b) s->wpAny (model prog w) A (richCompare op y x) Q E s
inductive jK(op:CmpOp)(A:Around)(s:Shared)(fin b:Bool):List (Value×Value)->Prop
 |nil:fin=b->jK op A s fin b []
 |eq {y x:Value} {r:List (Value×Value)}:EqAt A s y x true->jK op A s fin b r->jK op A s fin b ((y,x)::r)
 |ne {y x:Value} {r:List (Value×Value)}:EqAt A s y x false->o7 op A s y x b->jK op A s fin b ((y,x)::r)
open MeetsSeq MeetsSeq2 MeetsSeq3 SeqRoads2
theorem YM(l b:Addr)(items a:Array Value)(n n2:Nat)(dd f:Option Addr)(o i:Array (Option Value))(res:Bool):
  Meets (Builtin.«tuple.__lt__» ⟨[.ref l,.ref b],[]⟩)
   (λA R s=>s.heap.get? l=some {cls:=.type "tuple",dict:=dd,data:=.seq items n,slots:=o}/\s.heap.get? b=some {cls:=.type "tuple",dict:=f,data:=.seq a n2,slots:=i}/\
    jK .Lt A.in1 s (decide (items.size<a.size)) res (items.toList.zip a.toList)/\R (.ok (.ret (.bool res))) s):=
 .of_wp λprog w A R s h=>by
  obtain⟨k,g,d,m,os⟩:=s;obtain⟨p,q,r,h⟩:=h;have f2:=AutoSeq1.sub_tuple_tuple;wp_walk using yw p,yw q,wpAny_forIn_list _ (λrest b s'=>b.1=none/\s'=⟨k,g,d,m,os⟩/\jK .Lt A.in1 ⟨k,g,d,m,os⟩ (decide (items.size<a.size)) res rest) _;case turn=>
   rintro ⟨y,x⟩ rest b s' ⟨c,rfl,j⟩;cases j with
   |eq h1 h2=>
    refine ah (h1 prog w _ _ ?_);wp_walk;exact⟨rfl,rfl,h2⟩
   |ne h1 h2=>
    refine ah (h1 prog w _ _ ?_);simp only[Bool.not_false,lR];refine ah (jZ ?_);refine ah (h2 prog w _ _ ?_);wp_walk;exact⟨_,rfl,h⟩
  case fin=>
   rintro ⟨t,u⟩ s' ⟨c,rfl,j⟩;simp only at c;subst c;cases j with
   |nil e=>
    wp_walk;exact⟨_,rfl,by rw[<-e] at h;simpa[Builtin.Tuple.tupleCompareSizes] using h⟩
  case h=>
   exact⟨rfl,rfl,r⟩
mutual
noncomputable def ltQ:PyData->PyData->Option Bool
 |.int i,.int j=>some (decide (i<j))
 |.str x,.str y=>some (decide (x.cps.toList<y.cps.toList))
 |.tuple xs,.tuple ys=>gy xs ys
 |_,_=>none
noncomputable def gy:List PyData->List PyData->Option Bool
 |[],[]=>some false
 |[],_::_=>some true
 |_::_,[]=>some false
 |x::xs,y::ys=>match PyData.eqv x y with
  |true=>gy xs ys
  |false=>ltQ x y
end
theorem Mk(i j:Int)(A:Around)(s:Shared)(a b:Value)(as bs:List Addr)(r:Bool)(e:ltQ (.int i) (.int j)=some r)(ra:Reads s.heap a (.int i) as)(c:Reads s.heap b (.int j) bs):o7 .Lt A s a b r:=by
 cases ra;cases c;rw[ltQ] at e;cases e;intro prog w E Q q;exact lt_int q
theorem Ml(xs ys:List PyData)(A:Around)(s:Shared)(a b:Value)(as bs:List Addr)(r:Bool)(i:A.units+min (PyData.tuple xs).depth (PyData.tuple ys).depth<cLine)(L:∀d vs as bs,ReadsAll s.heap d xs as->ReadsAll s.heap vs ys bs->A.in1.units+min (depthAll xs) (depthAll ys)<cLine->jK .Lt A.in1 s (decide (d.length<vs.length)) r (d.zip vs))(ra:Reads s.heap a (.tuple xs) as)(m:Reads s.heap b (.tuple ys) bs):o7 .Lt A s a b r:=by
 cases ra with
 | @tuple l o vs n _ e h1 h2 j p=>
  cases m with
  | @tuple l' o' c n' _ f k1 k2 k3 t=>
   obtain⟨cls,dd,data,u⟩:=o;obtain⟨k,g,data2,h⟩:=o';simp only at h2 j k2 k3;subst h2 j k2 k3;have L:=L vs.toList c.toList _ _ p t (room_in i);intro prog w E Q q;exact richCompare_meets_room (op:=.Lt) ⟨_,h1,rfl⟩ ⟨_,k1,rfl⟩ F.slot_tuple_lt F.entry_tuple_lt (F.args_tuple_lt_2 _ _) (YM l l' vs c n n' dd g u h r)
    ⟨h1,k1,by simpa using L,show Value.bool r≠Value.notImplemented/\Q (.bool r) s from⟨(λx=>nomatch x),q⟩⟩ (room_here i)
theorem Mn(i j:Str)(A:Around)(s:Shared)(a b:Value)(as bs:List Addr)(r:Bool)(e:ltQ (.str i) (.str j)=some r)(ra:Reads s.heap a (.str i) as)(c:Reads s.heap b (.str j) bs):o7 .Lt A s a b r:=by
 cases ra;cases c;rw[ltQ] at e;cases e;intro prog w E Q q;exact lt_str q
theorem GQ{α β:Type}{a:α}{b:β}{u:List α}{v:List β}:decide ((a::u).length<(b::v).length)=decide (u.length<v.length):=θ
theorem Mm(x y:PyData)(xs ys:List PyData)(A:Around)(s:Shared)(a vs:List Value)(as bs:List Addr)(r:Bool)(e:gy (x::xs) (y::ys)=some r)(ra:ReadsAll s.heap a (x::xs) as)(i:ReadsAll s.heap vs (y::ys) bs)(j:canLayAll0 (x::xs)=true)(k:canLayAll0 (y::ys)=true)
 (g:A.units+min (depthAll (x::xs)) (depthAll (y::ys))<cLine)
 (l:∀a vs as bs,gy xs ys=some r->ReadsAll s.heap a xs as->ReadsAll s.heap vs ys bs->canLayAll0 xs=true->canLayAll0 ys=true->A.units+min (depthAll xs) (depthAll ys)<cLine->jK .Lt A s (decide (a.length<vs.length)) r (a.zip vs))
 (L2:∀u v as bs,ltQ x y=some r->Reads s.heap u x as->Reads s.heap v y bs->x.canLay0=true->y.canLay0=true->A.units+min x.depth y.depth<cLine->o7 .Lt A s u v r):jK .Lt A s (decide (a.length<vs.length)) r (a.zip vs):=by
  have b:x.canLay0=true/\canLayAll0 xs=true:=by simpa[canLayAll0] using j
  have d:y.canLay0=true/\canLayAll0 ys=true:=by simpa[canLayAll0] using k
  cases ra with
  |cons a1 a2=>
   cases i with
   |cons h m=>
    have f:=eqAt_reads x y A s _ _ _ _ a1 h b.1 d.1 (room_head g)
    rw[gy] at e
    cases c:PyData.eqv x y with
    |true=>
     rw[c] at e f
     have L:=l _ _ _ _ e a2 m b.2 d.2 (room_tail g)
     rw[GQ]
     exact .eq f L
    |false=>
     rw[c] at e f
     exact .ne f (L2 _ _ _ _ e a1 h b.1 d.1 (room_head g))
mutual
theorem Mp:∀(d db:PyData) (A:Around) (s:Shared) (a b:Value) (as bs:List Addr) (r:Bool),ltQ d db=some r->Reads s.heap a d as->Reads s.heap b db bs->d.canLay0=true->db.canLay0=true->
  A.units+min d.depth db.depth<cLine->o7 .Lt A s a b r
 |.none,db,A,s,_,_,_,_,r,e,ra,c,_,_,_=>by simp[ltQ] at e
 |.bool _,db,A,s,_,_,_,_,r,e,ra,c,_,_,_=>by simp[ltQ] at e
 |.list _,db,A,s,_,_,_,_,r,e,ra,c,_,_,_=>by simp[ltQ] at e
 |.dict _,db,A,s,_,_,_,_,r,e,ra,c,_,_,_=>by simp[ltQ] at e
 |.int i,db,A,s,_,_,_,_,r,e,ra,c,_,_,_=>by
  cases db with
  |int j=>exact Mk i j A s _ _ _ _ r e ra c
  |_=>simp[ltQ] at e
 |.str i,db,A,s,_,_,_,_,r,e,ra,c,_,_,_=>by
  cases db with
  |str j=>exact Mn i j A s _ _ _ _ r e ra c
  |_=>simp[ltQ] at e
 |.tuple xs,db,A,s,_,_,_,_,r,e,ra,c,f,g,h=>by
  cases db with
  |tuple ys=>exact Ml xs ys A s _ _ _ _ r h (λk vs as bs h1 h2 l=>AF xs ys A.in1 s k vs as bs r (by rw[ltQ] at e;exact e) h1 h2 f g l) ra c
  |_=>simp[ltQ] at e
theorem AF:∀(xs ys:List PyData) (A:Around) (s:Shared) (a vs:List Value) (as bs:List Addr) (r:Bool),gy xs ys=some r->ReadsAll s.heap a xs as->ReadsAll s.heap vs ys bs->canLayAll0 xs=true->canLayAll0 ys=true->
  A.units+min (depthAll xs) (depthAll ys)<cLine->jK .Lt A s (decide (a.length<vs.length)) r (a.zip vs)
 |[],ys,A,s,_,_,_,_,r,e,ra,b,_,_,_=>by
  cases ys with
  |nil=>cases ra;cases b;rw[gy] at e;cases e;exact .nil θ
  |cons y ys=>cases ra;cases b;rw[gy] at e;cases e;exact .nil θ
 |x::xs,ys,A,s,a,vs,as,bs,r,e,ra,b,h,i,j=>by
  cases ys with
  |nil=>cases ra;cases b;rw[gy] at e;cases e;exact .nil θ
  |cons y ys=>exact Mm x y xs ys A s a vs as bs r e ra b h i j (λa vs as bs h1 h2 c d f g=>AF xs ys A s a vs as bs r h1 h2 c d f g) (λu v as bs h1 h2 c d f g=>Mp x y A s u v as bs r h1 h2 c d f g)
end
end L2
namespace SI
open SS
noncomputable def intOf(v:Value):Int:=match v with|.int x _=>x|_=>0
abbrev vK(prog:Program)(w:World):Kd prog w Int:=⟨PySem.intKind prog w,.int,intOf,λ_ _=>rfl,λ_ _=>rfl,λ_ _ h=>Value.isInt_shape h,λx t=>by show Value.isInt x (.int x t)=true;simp[Value.isInt]⟩
abbrev pB(prog:Program)(w:World)(h:Heap)(a:Addr)(es:Array (Int×Value)):Prop:=fW (vK prog w) h a es
theorem NX{prog:Program}{w:World}{l:List (Int×Value)}(h:ElemsOf (PySem.intKind prog w) l){e:Int×Value}(a:e∈l):∃t,e.2=.int (intOf e.2) t:=vv (κ:=vK prog w) h a
end SI
end
namespace SI
abbrev nums(es:Array (Int×PySem.Value)):List Int:=es.toList.map λe=>intOf e.2
open PySem PySem.Spec PyProof.Rows SS
section
variable{prog:Program}{w:World}{A:Around}{E:aU}{s:Shared}
theorem Mi{l:Addr}{items:Array Value}{val:Nat->Int}{Q:aU}
  (hh:A.handled=none)(hl:s.heap.IsTuple l items)(hi:∀(i:Nat) (v:Value),items[i]? =some v->∃t:Tok,v=Value.int (val i) t)(J:items.size+1<scanBound)
  (h:∀(h':Heap) (K:Nat) (es:Array (Int×Value)),pB prog w h' s.heap.objs.size es->es.size<=items.size->(∀x,x∈nums es↔∃j,j<items.size/\val j=x)->
   (∀b o,b<s.heap.objs.size->s.heap.get? b=some o->h'.get? b=some o)->Q (.ref s.heap.objs.size) {s with heap:=h',toks:=K}):
  wpAny (model prog w) A (call (.type "set") [.ref l]) Q E s:=by
 obtain⟨c,tl,QF⟩:=gW.mro
 have M:=gW.made
 have hsub:=gW.sub
 refine wpAny_call (yH ?_)
 show wpAny _ _ (callAny (.type "set") _) _ _ _
 refine aD ⟨Code.quiet_builtin _ η,iL PySem.F.entry_type_call ?_⟩
 rw[Around.under_plain (weight_type_call_type "set" [.ref l] []) rfl]
 have h1:=gW.notType
 have h2:=gW.canCreate
 have hct:=PySem.F.typeCall_set_1 (.ref l)
 repeat (any_goals (first|assumption|wp_step))
 refine nB (SS.code_set_new (.ref l) (E:=E) (Q₁:=λobj f=>obj= .ref s.heap.objs.size/\f={s with heap:=s.heap.push (SS.fG w)}) ⟨rfl,rfl⟩) λr f N=> ?_
 cases r with
 |error e=>exact N
 |ok fl=>
  cases fl with
  |ret obj=>
   obtain⟨rfl,rfl⟩:=N
   have hS:(s.heap.push (SS.fG w)).get? s.heap.objs.size=some (SS.fG w):=cu _ rfl
   have hT:Shared.TypeIs {s with heap:=s.heap.push (SS.fG w)} (.ref s.heap.objs.size) "set":=⟨_,hS,rfl⟩
   have hli:=gW.init.lookup
   have hbi:=gW.init.bind (.ref s.heap.objs.size)
   repeat (any_goals (first|assumption|wp_step))
   refine nB (codeAny_call_builtin (R:=wants (λr g=>r= .none/\∃h' K es,g={s with heap:=h',toks:=K}/\
     pB prog w h' s.heap.objs.size es/\es.size<=items.size/\(∀x,x∈nums es↔∃j,j<items.size/\val j=x)/\
     (∀b o,b<s.heap.objs.size->s.heap.get? b=some o->h'.get? b=some o)) E) gW.init.plain PySem.F.entry_set_init (check_set_init_1 hT ?_)) λu g a=> ?_
   .obtain⟨ol,y,B,nl,C⟩:=hl
    obtain⟨TM,k,O,d⟩:=ol
    simp only at B C
    subst B;subst C
    have D:(s.heap.push (SS.fG w)).get? l=some {cls:= .type "tuple",dict:=k,data:= .seq items nl,slots:=d}:=bu _ y
    have QO:=PySem.F.sub_tuple_set
    have QN:=PySem.F.sub_tuple_frozenset
    have hne:(Value.type "tuple" ==Value.type "dict")=false:=δ
    have G:(s.heap.push (SS.fG w)).IsTuple l items:=⟨_,D,rfl,nl,rfl⟩
    unfold Builtin.«set.__init__» noKeywords Builtin.Frozenset.updateFrom
    generalize P:pyIter=PI
    wp_walk
    subst P
    refine wpAny_pyIter_tuple G ?_
    refine ah (yy ?_)
    have H:l<s.heap.objs.size:=aR y
    have S:A.in1.in1.in1.handled=none:=by simp[hh]
    have I:l≠(s.heap.push (SS.fG w)).objs.size:=by
     rw[fR];exact bB (gq H)
    have T:s.heap.objs.size∉[(s.heap.push (SS.fG w)).objs.size,l]:=by
     rw[fR];simp only[aY,bI,fP,fQ,not_or]
     exact⟨bB (lS _),kT H⟩
    refine loop (κ:=vK prog w) ((Walks.tuple S _ l I items).toS) s.heap.objs.size T val (λi v hv=>hi i v hv) J (items.size - 0) 0 _ #[] ω (bQ _)
     ⟨⟨_,cu _ rfl,rfl,rfl⟩,(G.push _)⟩ ?nU (aF _) (λx=>⟨λz=>by simp[nums] at z,λ⟨j,hj,_⟩=>absurd hj (ua _)⟩) ?hR
    case nU=>exact fW.fresh (bu _ hS)
    case hR=>
     intro s' U L m n p
     obtain⟨h',g',d',V,W⟩:=s'
     have eg:g'=s.gens:=L.gens
     have ed:d'=s.drawn:=L.drawn
     have eo:W=s.os:=L.os
     subst eg;subst ed;subst eo
     show wpAny _ _ _ _ _ _
     refine aD ?_
     show wpAny _ _ (ret Value.none) _ _ _
     refine aD ⟨rfl,h',V,U,rfl,m,n,p,λb o J e=> ?_⟩
     have X:b≠s.heap.objs.size:=bB J
     have Y:b≠(s.heap.push (SS.fG w)).objs.size:=by
      rw[fR];exact bB (gq J)
     exact L.heap b o (by simp only[aY,bI,fP,fQ,not_or];exact⟨X,Y⟩) (bu _ (bu _ e))
   .cases u with
    |error e=>exact a
    |ok q=>
     cases q with
     |ret r=>
      obtain⟨rfl,h',K,es,rfl,m,n,p,Z⟩:=a
      repeat (any_goals (first|assumption|wp_step))
      exact h _ _ es m n p Z
     |_=>exact a.elim
  |_=>exact N.elim
end
section
variable{prog:Program}{w:World}{A:Around}{E:aU}{s:Shared}{it a:Addr}{es:Array (Int×Value)}{ep:Nat}{t:SetTable}
theorem ints_of{l:List (Int×Value)}(h:ElemsOf (PySem.intKind prog w) l):∀{zs:List Value},zs.Perm (l.map (·.2))->IntsAre zs (zs.map intOf):=λ {zs} a=>by
 have:∀v∈zs,∃t,v=Value.int (intOf v) t:=λv b=>by
  obtain⟨e,c,rfl⟩:=aM.mp (a.mem_iff.mp b);exact NX h c
 clear a;induction zs with
 |nil=>exact .nil
 |cons v r d=>
  obtain⟨t,e⟩:=this v θ;have r':=d λf h'=>this f (by simp[h']);rw[cK];rw[e];exact .cons _ t r'
theorem BF{Q:aU}(t:A.handled=none)(r:pB prog w s.heap a es)(j:es.size<64)
  (h:∀(h':Heap) (d:Drawn) (i:Nat) (l:Addr) (e:Nat) (out:List Value) (ss:List Int),s.heap.objs.size<=l->h'.get? l=some (seqObj "list" out.toArray e)->IntsAre out ss->ss.Perm (nums es)->ss.Pairwise (·<=·)->
   (∀b o,s.heap.get? b=some o->h'.get? b=some o)->Q (.ref l) {s with heap:=h',drawn:=d,toks:=i}):
  wpAny (model prog w) A (call (.builtin "sorted") [.ref a]) Q E s:=by
 have c:ElemsOf (PySem.intKind prog w) es.toList:=by obtain⟨_,_,_,_,_,_,c,_⟩:=r;exact c
 refine ye kind_sorted plain_sorted entry_sorted (args_sorted1 _) ?_;unfold Builtin.«sorted»;refine ah (m:=checkCount "sorted" 1 1 _) (aD ?_);refine ah (SS.EA t r.y λh1 d i zs hz hsz k1=>?_);have k:IntsAre zs (zs.map intOf):=ints_of c hz;have g:zs.length<64:=by rw[hz.length_eq,aK,gn];exact j
 refine ah (uf ?_);have f:(h1.push (seqObj "list" zs.toArray 0)).get? h1.objs.size=some (seqObj "list" zs.toArray 0):=cu _ rfl;show wpAny _ _ _ _ _ {s with heap:=h1.push (seqObj "list" zs.toArray 0),drawn:=d,toks:=i};refine ah (fS (jf yl ⟨_,f,rfl⟩ yI (list_sort_tree f k g λout n u v x=>⟨_,rfl,?_⟩) (yG _)));obtain⟨e,z⟩:=ym (out:=out) f;refine aD ⟨_,rfl,h _ d i h1.objs.size e out.toList n hsz (by rw[yp];exact z) u (v.trans ?_) x λb o q=>?_⟩
 .have:=hz.map intOf
  rw[bK] at this;exact this
 .have p:=k1 b o q
  rw[yo (bB (aR p)) (by rw[qB];exact gq (aR p))];exact bu _ p
end
end SI
section
open PySem PySem.Spec PyProof.Rows
namespace L2
section
variable{X:Cx}
theorem KQ:∀{out:List Value} {ss:List Int},IntsAre out ss->Vals (ss.map V.int) out
 |_,_,.nil=>.nil
 |_,_,.cons x t h=>.cons ⟨t,rfl⟩ (KQ h)
theorem XZ{l:List Int}(h:l.Pairwise (·<=·))(nd:l.Nodup):l.Pairwise (·<·):=(h.and nd).imp λ {a b} q=>by
 have:=q.1;have:=q.2;omega
theorem Xr{A:Around}{E:aU}{pins:aZ}{σ:St}{H1:Hp}{d:Shared}{a:Addr}{xs:List Int}{Q:aU}(r:A.handled=none)(s:Inv X pins σ H1 d)(hq:aV X.K H1 a (xs.map V.int)\/bP X.K H1 a (xs.map V.int))(t:xs.length<64)
  (h:∀(h':Heap) (f:Nat) (es:Array (Int×Value)),SI.pB X.prog X.w h' d.heap.objs.size es->es.size<64->(∀x,x∈SI.nums es↔x∈xs)->(∀b o,d.heap.get? b=some o->h'.get? b=some o)->Q (.ref d.heap.objs.size) {d with heap:=h',toks:=f}):
  wpAny (model X.prog X.w) A (call (.type "set") [.ref a]) Q E d:=by
 have mem:∀(es:Array (Int×Value)) (n:Nat),n=xs.length->(∀x,x∈SI.nums es↔∃j,j<n/\xs.getD j 0=x)->∀x,x∈SI.nums es↔x∈xs:=λes n u y x=>by
  rw[y x,u];constructor
  .rintro ⟨j,g,rfl⟩
   rw[fT,a_ g];exact kY g
  .intro z
   obtain⟨j,g,e⟩:=jc z;exact⟨j,g,by rw[fT,a_ g];exact e⟩
 rcases hq with hq|hq
 .obtain⟨its,k,pl,m⟩:=s.list hq
  have hsz:its.toArray.size=xs.length:=by rw[cg,<-k.length,aK]
  exact SS.El (κ:=SI.vK _ _) (val:=λi=>xs.getD i 0) r pl.isList (λi v p=>DP.KR k i v p) (by rw[hsz,show scanBound=4096 from rfl];omega) λh2 f es q l c k2=>h h2 f es q ω (mem es _ hsz c) λb o e=>k2 b o (aR e) e
 .obtain⟨its,k,pl,m⟩:=s.tuple hq
  have hsz:its.toArray.size=xs.length:=by rw[cg,<-k.length,aK]
  exact SI.Mi (val:=λi=>xs.getD i 0) r (show d.heap.IsTuple a its.toArray from pl) (λi v p=>DP.KR k i v p) (by rw[hsz,show scanBound=4096 from rfl];omega) λh2 f es q l c k2=>h h2 f es q ω (mem es _ hsz c) λb o e=>k2 b o (aR e) e
def Yy(K:Frag)(ta:TA):TE:=λσ H Q=>ta σ H λvs H1=>∃(a:Addr) (xs:List Int),vs=[.ref a]/\(aV K H1 a (xs.map V.int)\/bP K H1 a (xs.map V.int))/\xs.length<64/\
 ∀(l:Addr) (ys:List Int),H1 l=none->ys.Pairwise (·<·)->(∀x,x∈ys↔x∈xs)->Q (.ref l) (upd H1 l (.lst (ys.map V.int)))
theorem UO{e:Expr}{ta:TA}{p1 p2 pos1 pos2:Pos}(y:X.mg "sorted"=none)(A:X.mg "set"=none)(hc:X.calm=true)(M:PA X [e] ta)(B:Gl X "sorted":=by rfl)(C:Gl X "set":=by rfl)
  (N:starEach [e] X.env=[(false,eval e X.env)]:=by rfl)(hz:starEach [.Call (.Name "set" p2) [e] [] pos2] X.env=[(false,eval (.Call (.Name "set" p2) [e] [] pos2) X.env)]:=by rfl):
  PE X (.Call (.Name "sorted" p1) [.Call (.Name "set" p2) [e] [] pos2] [] pos1) (Yy X.K ta):=by
 intro pins s σ H Q I h;refine lU (jv I B y (show bootBuiltins "sorted"=some (.builtin "sorted") by with_unfolding_all rfl) ?_);refine Ci ?_ hz rfl;rw[hz];refine yf (lU (jv I C A (show bootBuiltins "set"=some (.type "set") by with_unfolding_all rfl) (ng (aJ (M pos2 pins s σ H _ I h) λY v ⟨vs,H1,i,O,P⟩=>?_) N rfl)));obtain⟨a,xs,e,R,D,q⟩:=P;subst e;obtain⟨u,rfl,S⟩:=vals1 O;cases S;refine Xr (i.ok.hd hc) i R D λh2 T es E g p f=>?_;refine yg ?_;refine SI.BF (s:={v with heap:=h2,toks:=T}) (i.ok.hd hc) E g λL d r l ep out ss j F G c k k3=>?_;have alt:v.heap.objs.size<h2.objs.size:=by obtain⟨o,_,_,U,_⟩:=E;exact aR U
 have w:H1 l=none:=i.hok.fresh (cC (ir alt) j);have nd:ss.Nodup:=c.nodup_iff.mpr (by obtain⟨_,_,_,_,_,_,_,J,_⟩:=E;exact J);have m:∀x,x∈ss↔x∈xs:=λx=>by rw[c.mem_iff,p x]
 have t:ss.length=es.size:=by rw[c.length_eq,aK,gn]
 have W:Inv X pins σ (upd H1 l (.lst (ss.map V.int))) {v with heap:=L,drawn:=d,toks:=r}:=by
  refine i.call (ch:=[]) (g':=v.gens) (d':=d) (t':=r) (h':=L) (H':=upd H1 l (.lst (ss.map V.int))) ⟨λb o q _ _ _=>k3 b o (f b o q),λb o q _ _ _=>⟨o.slots,k3 b o (f b o q)⟩,λb o q n _=>?_,λb o q _=>⟨o,k3 b o (f b o q)⟩,λb xs q=>?_,λb o u q=>?_,λb ps q=>⟨#[],?_⟩⟩ ?_ i.bare λb z=>absurd z θ
  .rw[bf (bB (cO (aR q) (cC (ir alt) j)))];exact n
  .rw[bf (dh q w)];exact q
  .rw[bf (dh q w)];exact q
  .rw[bf (dh q w),q];simp
  .exact i.hok.laid (λb u q=>k3 b u (f b u q)) (cC (ir alt) j) ⟨by rw[aK,t];exact ir (cO g δ),out,ep,KQ G,F⟩
 exact⟨.ref l,_,W,rfl,q l ss w (XZ k nd) m⟩
end
end L2
namespace DP
open L2
theorem au.Gw{mg:aB}{ι:Io}{H:Hp}{n:Nat}(ns:List Int):au mg ι n H (ns.map D.int) (ns.map V.int):=au.ints ns
@[irreducible] def oG(xs:List D)(A:Ar)(R:DK):Prop:=match iW xs with
 |some ns=>ns.length<64/\∀ys:List Int,ys.Pairwise (·<·)->(∀x,x∈ys↔x∈ns)->R (.ref A.length) (A++[.lst (ys.map D.int)])
 |none=>False
@[irreducible] def tL(r:Nat)(A:Ar)(R:DK):Prop:=match A[r]? with
 |some (.lst xs)=>oG xs A R
 |_=>False
noncomputable def XO:gH:=λvs A R=>match vs with
 |[.tup xs]=>oG xs A R
 |[.ref r]=>tL r A R
 |_=>False
section
variable{X:Cx}{N:En}{e:Expr}{n:dw}{p1 p2 pos1 pos2:Pos}
theorem E0(d:X.mg "sorted"=none)(f:X.mg "set"=none)(hc:X.calm=true)(v:PA X [e] (fO X.mg N n))(g:Gl X "sorted":=by rfl)(h:Gl X "set":=by rfl)
  (w:starEach [e] X.env=[(false,eval e X.env)]:=by rfl)(hz:starEach [.Call (.Name "set" p2) [e] [] pos2] X.env=[(false,eval (.Call (.Name "set" p2) [e] [] pos2) X.env)]:=by rfl):
  PE X (.Call (.Name "sorted" p1) [.Call (.Name "set" p2) [e] [] pos2] [] pos1) (up X.mg N (rM XO n)):=dJ (UO d f hc v g h w hz) λσ H Q q=>by
 obtain⟨A,ι,τ,R,S,q,k⟩:=q;refine⟨A,ι,τ,_,S,q,λvs s x H1 t b u i c=>?_⟩;match vs,b,c with
 |[.tup xs],b,c=>
  obtain⟨_,_,rfl,⟨a,t,rfl,y,h2⟩,rfl⟩:=c;have b:oG xs s R:=b;unfold oG at b;split at b
  .rename_i ns j
   exact⟨_,ns,rfl,.inr (bP.of (by rw[y,vL j h2])),b.1,λl ys m o p=>jT (k.from u) i (au.Gw ys) (b.2 ys o p) m⟩
  .exact b.elim
 |[.ref r],b,c=>
  obtain⟨_,_,rfl,⟨_,rfl⟩,rfl⟩:=c;have b:tL r s R:=b;unfold tL at b;split at b
  .rename_i xs e
   obtain⟨t,h1,h2⟩:=i.lst e;unfold oG at b;split at b
   .rename_i ns j
    exact⟨_,ns,rfl,.inl (aV.of (by rw[h1,vL j h2])),b.1,λl ys m o p=>jT (k.from u) i (au.Gw ys) (b.2 ys o p) m⟩
   .exact b.elim
  .exact b.elim
end
theorem Gv:∀ns:List Int,iW (ns.map D.int)=some ns
 |[]=>rfl
 |i::ns=>by
  show(iW (ns.map D.int)).map (i::·)=_;rw[Gv ns];rfl
theorem Kh{A:Ar}{ns:List Int}{R:DK}(a:ns.length<64)(k:∀ys:List Int,ys.Pairwise (·<·)->(∀x,x∈ys↔x∈ns)->R (.ref A.length) (A++[.lst (ys.map D.int)])):oG (ns.map D.int) A R:=by
 unfold oG;rw[Gv];exact⟨a,k⟩
theorem XQ{A:Ar}{r:Nat}{ns:List Int}{R:DK}(h:A[r]?=some (.lst (ns.map D.int)))(a:ns.length<64)(k:∀ys:List Int,ys.Pairwise (·<·)->(∀x,x∈ys↔x∈ns)->R (.ref A.length) (A++[.lst (ys.map D.int)])):tL r A R:=by
 unfold tL;rw[h];exact Kh a k
end DP
namespace L2
section
variable{X:Cx}{pins:aZ}{σ:St}{H:Hp}{s:Shared}{d:Addr}{kvs:List (Key×V)}
theorem Inv.swap{u g:HO}(I:Inv X pins σ H s)(hd:H d=some u)(j:∀xs,u≠ .tup xs)(k:∀ps,u≠ .ja ps)(l:∀a,u≠ .own a)(m:∀o v,X.H₀ d=some (.bT o v)->False)(q:b9 X.prog X.w H s.heap d g):Inv X pins σ (upd H d g) s:=by
 have nn:∀b,H b=none->upd H d g b=none:=λb h=>by
  rw[bf (λz=>by rw[z,hd] at h;cases h)];exact h
 have st:∀(a:Addr) (o:HO),b9 X.prog X.w H s.heap a o->b9 X.prog X.w (upd H d g) s.heap a o:=λa o x=>
  x.stay (λb v _ e=>e) (λb h=>by rw[bf (λz=>by rw[z,hd] at h;exact l a (Option.some.inj h))];exact h) λb xs h=>by rw[bf (λz=>by rw[z,hd] at h;exact j xs (Option.some.inj h))];exact h
 refine⟨I.ok,I.os,I.bare,⟨I.base.keep,I.base.slot,λb o e n r=>nn b (I.base.free b o e n r),I.base.there,λb xs h=>?_,λb o v h=>?_,λb ps h=>?_⟩,I.loc,I.cell,nn _ I.free,λx c e=>nn _ (I.kD x c e),λp i=>?_,λa o h=>?_,I.len⟩
 .have h':=I.base.tups b xs h
  rw[bf (λz=>by rw[z,hd] at h';exact j xs (Option.some.inj h'))];exact h'
 .have h':=I.base.gP b o v h
  rw[bf (λz=>by rw[z] at h;exact m o v h)];exact h'
 .obtain⟨f,h'⟩:=I.base.iI b ps h
  exact⟨f,by rw[bf (λz=>by rw[z,hd] at h';exact k _ (Option.some.inj h'))];exact h'⟩
 .obtain⟨h1,h2,t⟩:=I.pin p i
  exact⟨h1,nn _ h2,t⟩
 .by_cases z:a=d
  .subst z
   rw[fh] at h;cases h;exact st _ _ q
  .rw[bf z] at h
   exact st _ _ (I.hok a o h)
theorem Inv.fz(I:Inv X pins σ H s)(hd:H d=some (.dK kvs)):(∀o v,X.H₀ d=some (.bT o v)->False)/\∃o,Inv X pins σ (upd H d (.bT o (.dK kvs))) s:=by
 have a:∀o v,X.H₀ d=some (.bT o v)->False:=λo v h=>by
  have:=I.base.gP d o v h;rw[hd] at this;cases this
 have b:=I.hok d _ hd;obtain⟨h1,h2,vs,f,c⟩:=id b;obtain⟨o,es,ep,e,r⟩:=id c;exact⟨a,o,I.swap hd (λ_ z=>by cases z) (λ_ z=>by cases z) (λ_ z=>by cases z) a ⟨e,b⟩⟩
theorem Inv.B4{o:Obj}(I:Inv X pins σ H s)(hd:H d=some (.bT o (.dK kvs)))(a:∀o v,X.H₀ d=some (.bT o v)->False):Inv X pins σ (upd H d (.dK kvs)) s:=
 I.swap hd (λ_ z=>by cases z) (λ_ z=>by cases z) (λ_ z=>by cases z) a (I.hok d _ hd).2
end
noncomputable def yR(a:Addr)(o:Obj)(ks:List Key):It:=
 ⟨λi H=>∃kvs,H a=some (.bT o (.dK kvs))/\kvs.map (·.1)=ks/\i<ks.length,λi H x H'=>H'=H/\∃k,ks[i]?=some k/\x=kV k,λi H=>∃kvs,H a=some (.bT o (.dK kvs))/\kvs.map (·.1)=ks/\ks.length<=i⟩
theorem VW{k:Key}{v:Value}(h:lI k v=true):RelV (kV k) v:=by
 rcases ju h with⟨i,t,rfl,rfl⟩|⟨x,t,rfl,rfl⟩
 .exact⟨t,rfl⟩
 .exact⟨t,rfl⟩
theorem z9{X:Cx}{pins:aZ}{σ:St}{H:Hp}{s:Shared}{a:Addr}{o:Obj}{kvs:List (Key×V)}{es:Array DictEntry}{ep:Nat}(I:Inv X pins σ H s)(h:H a=some (.bT o (.dK kvs)))(b:o.data=.dict es ep):(a==sysModules)=false/\∃vs:List (Key×Value),vs.map (·.1)=kvs.map (·.1)/\s.heap.DictAt (dg X.prog X.w) a vs ep:=by
 obtain⟨e,hz,h2,vs,c,f⟩:=(show b9 X.prog X.w H s.heap a (.bT o (.dK kvs)) from I.hok a _ h);obtain⟨o',g,i,d,hc,hd,r⟩:=f;rw[e] at d;cases d;rw[b] at hd;cases hd;refine⟨h2,vs,?_,⟨o,es,e,hc,b,r⟩⟩;clear r h2 h e hz;unfold KV at c;induction c with
 |nil=>rfl
 |cons p t j=>rw[cK,cK,j,p.1]
theorem YQ{P:Program}{w:World}{K:Frag}{tg:Expr}(a it:Addr){o:Obj}{ks:List Key}{es:Array DictEntry}{ep:Nat}(B:o.data= .dict es ep):Turn P w K tg (yR a o ks) [it] it (λi h=>h.IsKeyIter it a i ks.length ep) where
 mem:=θ
 obj:=λi h st b f=>by
  have e:b=it:=by simpa using f
  subst e
  obtain⟨o,e,c,d⟩:=st
  exact⟨o,e,λv z=>by rw[d] at z;cases z⟩
 keep:=λi h h' st k=>st.at λo e=>k it θ o e
 item:=by
  intro X q r t hc i pins s σ H E I m st u
  subst q r t
  obtain⟨kvs,h1,h2,D⟩:=u
  obtain⟨F,vs,n,g⟩:=z9 I h1 B
  have p:vs.length=ks.length:=by rw[<-h2,<-n,aK]
  obtain⟨f0,f1,f2,x,f4,y⟩:=m it θ
  obtain⟨A,C⟩:∃A,vs[i]? =some A:=⟨vs[i]' ω,a_ _⟩
  have G:ks[i]? =some A.1:=by rw[<-h2,<-n,ck,C];rfl
  rw[<-p] at st
  refine wpAny_pyNext_dict_item (knd:=dg X.prog X.w) st g C λkey h' l j J=> ?_
  have L:Inv X pins σ H {s with heap:=h'}:=I.turned (t':=s.toks) (λb o f e=>(J.2 b f).trans e) f0 f1 x f4 y
  obtain⟨o',e,c,d⟩:=id j
  rw[p] at j
  exact⟨key,rfl,rY (s:={s with heap:=h'}) e c d δ ⟨_,H,L,VW l,⟨rfl,_,G,rfl⟩,j,λb f=>(m b f).1⟩⟩
 done:=by
  intro X q r t hc i pins s σ H E I m st u
  subst q r t
  obtain⟨kvs,h1,h2,D⟩:=u
  obtain⟨F,vs,n,g⟩:=z9 I h1 B
  have p:vs.length=ks.length:=by rw[<-h2,<-n,aK]
  obtain⟨f0,f1,f2,x,f4,y⟩:=m it θ
  rw[<-p] at st
  exact wpAny_pyNext_dict_end (knd:=dg X.prog X.w) (I.ok.hd hc) st g (o6 ω) λh' M=>⟨rfl,I.turned (t':=s.toks) (λb o f e=>M b o f e) f0 f1 x f4 y⟩
 self:=λ_ _ _ _ _ st h=>wpAny_pyIter_keyiter st h
noncomputable def QY(tl:TE):TI:=λσ H R=>tl σ H λx H1=>∃a o kvs,x=.ref a/\H1 a=some (.bT o (.dK kvs))/\R (yR a o (kvs.map (·.1))) H1
theorem UZ{X:Cx}{tg l:Expr}{tl:TE}(f:PE X l tl):PI X tg l (QY tl):=by
 intro pins s σ H R I h;refine aJ (f pins s σ H _ I h) λv c ⟨x,H1,d,k,m⟩=>?_;obtain⟨a,o,kvs,e,i,q⟩:=m;subst e;cases k;obtain⟨e,_,h2,vs,y,n⟩:=(show b9 X.prog X.w H1 c.heap a (.bT o (.dK kvs)) from d.hok a _ i);obtain⟨o',es,ep,j,hc,hd,r⟩:=id n;rw[e] at j;cases j;obtain⟨p,vs,t,g⟩:=z9 d i hd;have f:(kvs.map (·.1)).length=vs.length:=by rw[<-t,aK]
 refine wpAny_pyIter_dict (knd:=dg X.prog X.w) p g ?_;refine⟨c.heap.objs.size,[c.heap.objs.size],_,_,H1,rfl,d.kept (t':=c.toks) λb o e=>bu _ e,YQ a _ hd,⟨_,cu _ rfl,rfl,by rw[f];rfl⟩,λb u=>?_,q⟩;have e:b=c.heap.objs.size:=by simpa using u
 subst e;exact d.mP (aF _) (d.hok.fresh (aF _))
end L2
namespace DP
open L2
noncomputable def keyOf:Key->D
 |.inl i=>.int i
 |.inr x=>.str x
theorem Wa{mg:aB}{ι:Io}{n:Nat}{H:Hp}(k:Key):RV mg ι n H (keyOf k) (kV k):=by
 cases k<;>rfl
theorem RK.pS{mg:aB}{ι:Io}{H:Hp}:∀{ds:List (Key×D)} {vs:List (Key×V)} {n:Nat},RK mg ι n H ds vs->vs.map (·.1)=ds.map (·.1)
 |[],vs,_,h=>by have h':vs=[]:=h;rw[h'];rfl
 |d::ds,vs,n,h=>by
  obtain⟨x,r,rfl,_,a⟩:=h;rw[cK,cK,RK.pS a]
theorem Rv{mg:aB}{A:Ar}{ι:Io}{H:Hp}{q:Nat}{o:Obj}{kvs:List (Key×D)}(b:q<A.length):k9 mg A ι H (yR (ι q) o (kvs.map (·.1))) (kvs.map λp=>keyOf p.1) (λA'=>A'[q]?=some (.bw o kvs)) where
 go:=λi d f a H1 hd e r hc=>by
  obtain⟨xs,h1,h2⟩:=r.bw hc;rw[e.ag q b] at h1;have hi:=(bY.mp hd).1;rw[aK] at hi;refine⟨⟨xs,h1,RK.pS h2,by rw[aK];exact hi⟩,λx H' y=>?_⟩;obtain⟨rfl,k,c,rfl⟩:=y;refine⟨r.refl,r,?_⟩;rw[ck,a_ hi] at hd c;cases hd;cases c;exact Wa _
 stop:=λf a H1 e r hc=>by
  obtain⟨xs,h1,h2⟩:=r.bw hc;rw[e.ag q b] at h1;exact⟨xs,h1,RK.pS h2,θ⟩
@[irreducible] def sq(r:Nat)(A:Ar)(R:List D->(Ar->Prop)->Ar->Prop):Prop:=match A[r]? with
 |some (.bw o kvs)=>R (kvs.map λp=>keyOf p.1) (λA'=>A'[r]?=some (.bw o kvs)) A
 |_=>False
noncomputable def sd(m:aP):jj:=λτ A R=>m τ A λx A1=>match x with
 |.ref r=>sq r A1 R
 |_=>False
section
variable{X:Cx}{N:En}{tg e:Expr}{m:aP}
theorem nN(f:PE X e (up X.mg N m)):PI X tg e (jz X.mg N (sd m)):=pM (UZ f) λσ H Q q=>by
 obtain⟨A,ι,τ,R,S,q,k⟩:=q;refine⟨A,ι,τ,_,S,q,λx c b H1 u a g d h=>?_⟩;cases x with
 |ref r=>
  obtain⟨i,rfl⟩:=h;have a:sq r c R:=a;unfold sq at a;split at a
  .rename_i o kvs e
   obtain⟨xs,h1,h2⟩:=d.bw e;refine⟨_,o,xs,rfl,h1,?_⟩;rw[RK.pS h2];exact k _ _ c b H1 _ a g d (Rv i)
  .exact a.elim
 |_=>exact a.elim
@[irreducible] def vD(r:Nat)(A:Ar)(Q:Obj->Ar->Prop):Prop:=match A[r]? with
 |some (.dct kvs)=>∀o,Q o (A.set r (.bw o kvs))
 |_=>False
def BV(r:Nat)(o:Obj)(A2:Ar)(Q:Ar->Prop):Prop:=∃kvs,A2[r]?=some (.bw o kvs)/\Q (A2.set r (.dct kvs))
noncomputable def EF(i:Nat)(m:aP):aP:=λτ A R=>match lk τ i with
 |some (.ref r)=>vD r A λo A1=>m τ A1 λx A2=>BV r o A2 (R x)
 |_=>False
theorem Ab{σ:L2.St}{H:Hp}{A:Ar}{ι:Io}{τ:bO}{r:Nat}{kvs:List (Key×D)}{xs:List (Key×V)}{o:Obj}(S:dH X.mg N A ι τ σ H)(e:A[r]?=some (.dct kvs))(h1:H (ι r)=some (.dK xs))(h2:RK X.mg ι A.length H kvs xs):
  dH X.mg N (A.set r (.bw o kvs)) ι τ σ (upd H (ι r) (.bT o (.dK xs)))/\Ext A ι H (A.set r (.bw o kvs)) ι (upd H (ι r) (.bT o (.dK xs))):=by
 have b:=(bY.mp e).1;have E:=S.ra.nP (o:=.bT o (.dK xs)) (c:=.bw o kvs) b;obtain⟨ra,a⟩:=S.ra.put (c':=.bw o kvs) (o:=.bT o (.dK xs)) e h1 rfl ⟨_,fh,by simpa using RK.ext E kvs xs h2⟩;exact⟨S.next a ra,a⟩
theorem Aa{mg:aB}{H:Hp}{A:Ar}{ι:Io}{r:Nat}{kvs:List (Key×D)}{o:Obj}(ra:RA mg ι H A)(e:A[r]?=some (.bw o kvs)):∃xs,H (ι r)=some (.bT o (.dK xs))/\RA mg ι (upd H (ι r) (.dK xs)) (A.set r (.dct kvs))/\Ext A ι H (A.set r (.dct kvs)) ι (upd H (ι r) (.dK xs)):=by
 obtain⟨xs,h1,h2⟩:=ra.bw e;have a:=(bY.mp e).1;have E:=ra.nP (o:=.dK xs) (c:=.dct kvs) a;obtain⟨b,d⟩:=ra.put (c':=.dct kvs) (o:=.dK xs) e h1 rfl ⟨_,fh,by simpa using RK.ext E kvs xs h2⟩;exact⟨xs,h1,b,d⟩
theorem EY{i:Nat}(n:PE X e (up X.mg N m)):PE X e (up X.mg N (EF i m)):=by
 intro pins s σ H Q I q;obtain⟨A,ι,τ,R,S,q,k⟩:=q;unfold EF at q;split at q
 .rename_i r G
  unfold vD at q;split at q
  .rename_i kvs a
   obtain⟨xs,h1,h2⟩:=S.ra.dct a;have p:=(bY.mp a).1;obtain⟨t,o,w⟩:=I.fz h1;obtain⟨x,y⟩:=Ab (o:=o) S a h1 h2;refine aJ (n pins s σ _ (λu H'=>∃xs,H' (ι r)=some (.bT o (.dK xs))/\Q u (upd H' (ι r) (.dK xs))) w ⟨_,ι,τ,_,x,q o,λv A' ι' H' u b g z v2=>?_⟩) λv s' ⟨u,H',B,C,D,h',E⟩=>⟨u,_,B.B4 h' t,C,E⟩;obtain⟨h,c,b⟩:=b;have F:ι' r=ι r:=g.ag r (by simpa using p);obtain⟨d,j,l,f⟩:=Aa z c;rw[F] at j l f;exact⟨d,j,k v _ ι' _ u b ((y.trans g).trans f) l (RV.ext f v u v2)⟩
  .exact q.elim
 .exact q.elim
end
theorem FT{A:Ar}{r:Nat}{kvs:List (Key×D)}{Q:Obj->Ar->Prop}(h:A[r]?=some (.dct kvs))(k:∀o,Q o (A.set r (.bw o kvs))):vD r A Q:=by
 unfold vD;rw[h];exact k
theorem pZ{A:Ar}{r:Nat}{o:Obj}{kvs:List (Key×D)}{R:List D->(Ar->Prop)->Ar->Prop}(h:A[r]?=some (.bw o kvs))(k:R (kvs.map λp=>keyOf p.1) (λA'=>A'[r]?=some (.bw o kvs)) A):sq r A R:=by
 unfold sq;rw[h];exact k
theorem su{A:Ar}{r:Nat}{o:Obj}{kvs:List (Key×D)}{y v:D}{k:Key}{R:DK}(h:A[r]?=some (.bw o kvs))(a:gc y=some k)(b:br kvs k=some v)(q:R v A):lH r y A R:=by
 unfold lH;rw[h];simp only[a,b];exact q
end DP
namespace L2
theorem range_any(bs:List Bool):((range bs.length).any λi=>(bs[i]?).getD false)=bs.any id:=by
 rw[kQ,jD,jD];constructor
 .rintro ⟨i,hi,h⟩
  have hi:i<bs.length:=by simpa using hi
  rw[a_ hi] at h;exact⟨_,kY hi,h⟩
 .rintro ⟨b,a,h⟩
  obtain⟨i,hi,e⟩:=jc a;exact⟨i,by simpa using hi,by rw[a_ hi,e];exact h⟩
section
variable{X:Cx}
theorem Ej(hc:X.calm=true):eN X (.builtin "any") (λxs H Q=>∃(p:Addr) (bs:List Bool),xs=[.ref p]/\aV X.K H p (bs.map V.bl)/\Q (.bl (bs.any id)) H):=by
 intro pins s σ H xs o Q I r h;obtain⟨p,bs,rfl,g,q⟩:=h;obtain⟨u,rfl,j⟩:=vals1 r;cases j;obtain⟨vs,k,pl,hz⟩:=I.list g;have d:=zD k;have a:=pl.isList;have c:p<s.heap.objs.size:=by obtain⟨_,e,_⟩:=a;exact aR e
 refine call_any_walk (qG a ?_);refine⟨s.heap.objs.size,[s.heap.objs.size,p],[s.heap.objs.size],vs.toArray.size,_,_,λi=>(bs[i]?).getD false,rfl,Walks.list (A:=X.A.in1) (I.ok.hd hc) _ p (bB c) vs.toArray,
  ⟨⟨_,cu _ rfl,rfl,rfl⟩,a.push _⟩,λi v s' t w l f=>?_,λh' m n=>?_⟩
 .obtain⟨b,e,rfl⟩:=d.get i v (by simpa using l)
  simp only[e,getD_some] at f;exact nk f
 .have e:((range vs.toArray.size).any λi=>(bs[i]?).getD false)=bs.any id:=by
   rw[cg,d.length];exact range_any bs
  rw[e];exact⟨.bl _,H,I.kept (h':=h') (t':=m) (LSm.kept_iter n),rfl,q⟩
end
end L2
namespace DP
open L2
theorem Ed:bootBuiltins "any"=some (.builtin "any"):=by with_unfolding_all rfl
@[irreducible] def anyR(r:Nat)(A:Ar)(R:DK):Prop:=match A[r]? with
 |some (.lst xs)=>(match jn xs with
  |some bs=>R (.bl (bs.any id)) A
  |none=>False)
 |_=>False
noncomputable def DR:gH:=λvs A R=>match vs with
 |[.ref r]=>anyR r A R
 |_=>False
theorem EI{mg:aB}{K:Frag}:iy mg (λxs H Q=>∃(p:Addr) (bs:List Bool),xs=[.ref p]/\aV K H p (bs.map V.bl)/\Q (.bl (bs.any id)) H) DR:=by
 intro ds A ι H a R Q ra rs h k;unfold DR at h;split at h
 .obtain⟨_,_,rfl,⟨_,rfl⟩,rfl⟩:=rs
  unfold anyR at h;split at h
  .rename_i xs e
   split at h
   .rename_i bs b
    obtain⟨a,h1,c⟩:=ra.lst e;exact⟨_,bs,rfl,aV.of (by rw[h1,zC b c]),k.here ra h rfl⟩
   .exact h.elim
  .exact h.elim
 .exact h.elim
theorem DS{A:Ar}{r:Nat}{xs:List D}{bs:List Bool}{R:DK}(h:A[r]?=some (.lst xs))(a:jn xs=some bs)(k:R (.bl (bs.any id)) A):anyR r A R:=by
 unfold anyR;simp only[h,a];exact k
end DP
end
namespace KO
open PySem PySem.W PyProof.Rows
section
variable{O:KeyOrd}{key:Nat->O.α}{n:Nat}{cmp:Nat->Nat->(Bool->Shared->Prop)->Shared->Prop}{s:Shared}
noncomputable def kp(O:KeyOrd)(key:Nat->O.α)(p:Array Nat)(i:Nat):O.α:=key (p.getD i 0)
def Up(O:KeyOrd)(key:Nat->O.α)(p:Array Nat)(k:Nat):Prop:=∀i j,i<=j->j<k->O.kle (kp O key p i) (kp O key p j)
def Dn(O:KeyOrd)(key:Nat->O.α)(p:Array Nat)(k:Nat):Prop:=∀i j,i<=j->j<k->O.kle (kp O key p j) (kp O key p i)
def Pm(n:Nat)(p:Array Nat):Prop:=p.Perm (range n).toArray
theorem Pm.size{p:Array Nat}(h:Pm n p):p.size=n:=by
 have:=Array.Perm.size_eq h;simpa using this
theorem Pm.lt{p:Array Nat}(h:Pm n p){i:Nat}(hi:i<n):p.getD i 0<n:=by
 have hz:=h.size;have a:p[i]' ω∈p:=Array.getElem_mem _;have:=(Array.Perm.mem_iff h).mp a;rw[iM,eT ω];simpa using this
theorem sC{p q:Array Nat}{i j:Nat}(h:p[i]?=q[j]?):kp O key p i=kp O key q j:=by
 unfold kp;rw[iM,iM,h]
theorem Ay{p:Array Nat}{i j:Nat}(a:j<=p.size)(k:Nat):kp O key (kas_rev p i j) k=if i<=k/\k<j then kp O key p (i+j - 1 - k) else kp O key p k:=by
 have e:=getElem?_mirror_all (xs:=p) (i:=i) a k;split
 .rename_i h;rw[aA h] at e;exact sC e
 .rename_i h;rw[ao h] at e;exact sC e
theorem Ax{p:Array Nat}{i j:Nat}(b:j<=p.size)(a:∀k,i<=k->k<j->kp O key p k=kp O key p (j - 1))(k:Nat):kp O key (kas_rev p i j) k=kp O key p k:=by
 rw[Ay b];split
 .rw[a _ ω ω,a k ω ω]
 .rfl
theorem Pm.rev{p:Array Nat}(h:Pm n p)(i j:Nat):Pm n (kas_rev p i j):=(mirror_perm _ _ _ _).trans h
theorem Up.snoc{p:Array Nat}{x:Nat}(h:Up O key p x)(h1:1<=x)(c:O.blt (kp O key p x) (kp O key p (x - 1))=false):Up O key p (x+1):=λi j a d=>by
 by_cases b:j<x
 .exact h i j a b
 .have e:j=x:=ω
  subst e;by_cases hi:i=j
  .subst hi;exact oV _
  .exact yz (h i (j - 1) ω ω) c
theorem Dn.snoc{p:Array Nat}{x:Nat}(h:Dn O key p x)(h1:1<=x)(c:O.kle (kp O key p x) (kp O key p (x - 1))):Dn O key p (x+1):=λi j a d=>by
 by_cases b:j<x
 .exact h i j a b
 .have e:j=x:=ω
  subst e;by_cases hi:i=j
  .subst hi;exact oV _
  .exact yz c (h i (j - 1) ω ω)
variable(hc:∀i j,i<n->j<n->∀C:Bool->Shared->Prop,C (O.blt (key i) (key j)) s->cmp i j C s)
include hc
theorem rF{α:Type}{p:Array Nat}(a:Pm n p){i j:Nat}(hi:i<n)(b:j<n){k:Bool->KasT α}{G:α->Shared->Prop}(h:(k (O.blt (kp O key p i) (kp O key p j))).kasWp cmp G s):(KasT.ask (p.getD i 0) (p.getD j 0) k).kasWp cmp G s:=
 hc _ _ (a.lt hi) (a.lt b) _ h
theorem zy{p:Array Nat}(d:Pm n p){b:Nat}(k:b<=n){G:Nat->Shared->Prop}:∀(f a:Nat),1<=a->a+f=b->Up O key p a->
  (∀m,a<=m->m<=b->Up O key p m->(m=b\/O.klt (kp O key p m) (kp O key p (m - 1)))->G m s)->(kas_asc p f a).kasWp cmp G s
 |0,a,h1,e,c,h=>h a (aF _) ω c (.inl ω)
 |f+1,a,h1,e,c,h=>by
  refine rF hc d (i:=a) (j:=a - 1) ω ω ?_;cases g:O.blt (kp O key p a) (kp O key p (a - 1)) with
  |true=>rw[aA rfl];exact h a (aF _) ω c (.inr g)
  |false=>
   rw[ao bU];exact zy d k f (a+1) ω ω (c.snoc h1 g) λm l=>h m ω
theorem vf{a:Nat}(r:a<=n){G:Array Nat×Nat×Nat->Shared->Prop}:∀(f:Nat) (p:Array Nat) (x q:Nat),Pm n p->1<=x->x+f=a->Dn O key p x->q+1<=x->(∀i,x - (q+1)<=i->i<x->kp O key p i=kp O key p (x - 1))->
  (∀b m d,Pm n b->x<=m->m<=a->Dn O key b m->d+1<=m->(∀i,m - (d+1)<=i->i<m->kp O key b i=kp O key b (m - 1))->G (b,m,d) s)->(kas_desc f p x q).kasWp cmp G s
 |0,p,x,q,g,h1,e,k,t,l,h=>h p x q g (aF _) ω k t l
 |f+1,p,x,q,g,h1,e,k,t,l,h=>by
  have hz:=g.size;refine rF hc g (i:=x) (j:=x - 1) ω ω ?_;cases u:O.blt (kp O key p x) (kp O key p (x - 1)) with
  |true=>
   rw[aA rfl];by_cases o:q>0
   .rw[aA o]
    have y:=Ax (O:=O) (key:=key) (p:=p) (i:=x - (q+1)) (j:=x) ω l;refine vf r f _ (x+1) 0 (g.rev _ _) ω ω (λi j v A=>?_) ω (λi i1 i2=>by congr 1;omega) λb m d c z=>h b m d c ω;rw[y,y];exact(k.snoc h1 (uq u)) i j v A
   .rw[ao o]
    exact vf r f p (x+1) 0 g ω ω (k.snoc h1 (uq u)) ω (λi i1 i2=>by congr 1;omega) λb m d c z=>h b m d c ω
  |false=>
   rw[ao bU];refine rF hc g (i:=x - 1) (j:=x) ω ω ?_;cases hd:O.blt (kp O key p (x - 1)) (kp O key p x) with
   |true=>rw[aA rfl];exact h p x q g (aF _) ω k t l
   |false=>
    rw[ao bU];have ex:kp O key p x=kp O key p (x - 1):=KeyOrd.kle_antisymm hd u;refine vf r f p (x+1) (q+1) g ω ω (k.snoc h1 hd) ω (λi i1 i2=>?_) λb m d c z=>h b m d c ω;rw[show x+1 - 1=x by omega];by_cases w:i=x
    .rw[w]
    .rw[ex];exact l i ω ω
theorem Ky{p:Array Nat}(b:Pm n p){m a:Nat}(e:a<=n)(h1:1<=m)(q:m<=a)(f:Dn O key p m){G:Nat×Array Nat->Shared->Prop}(h:∀k c,Pm n c->1<=k->k<=a->Up O key c k->G (k,c) s):(kas_tail3 m a p).kasWp cmp G s:=by
 have hz:=b.size;unfold kas_tail3;rw[KasT.kasWp_bind];refine zy hc (b.rev 0 m) e _ m h1 ω (λi j g r=>?_) λk l d o _=>h k _ (b.rev 0 m) ω d o;rw[Ay ω,Ay ω,aA ω,aA ω];exact f _ _ ω ω
theorem HJ{p:Array Nat}(r:Pm n p){m a:Nat}(g:a<=n)(x:m+1<=a)(t:Dn O key p (m+1)){G:Nat×Array Nat->Shared->Prop}(h:∀k c,Pm n c->1<=k->k<=a->Up O key c k->G (k,c) s):(kas_descPart m a p).kasWp cmp G s:=by
 unfold kas_descPart;rw[KasT.kasWp_bind];refine vf hc g _ p (m+1) 0 r ω ω t ω (λi i1 i2=>by congr 1;omega) λc k q b u d e y v=>?_;have hz:=b.size;by_cases f:q>0
 .simp only[f,lR]
  have o:=Ax (O:=O) (key:=key) (p:=c) (i:=k - (q+1)) (j:=k) ω v;refine Ky hc (b.rev _ _) g ω d (λi j l w=>?_) h;rw[o,o];exact e i j l w
 .simp only[f,gk]
  exact Ky hc b g ω d e h
theorem Mv{p:Array Nat}(b:Pm n p)(h1:1<=n){G:Nat×Array Nat->Shared->Prop}(h:∀k r,Pm n r->1<=k->k<=n->Up O key r k->G (k,r) s):(kas_count n p).kasWp cmp G s:=by
 have hz:=b.size;unfold kas_count;rw[KasT.kasWp_bind];refine zy hc b (aF n) _ 1 (aF _) ω (λi j a f=>by have e:i=j:=ω;rw[e];exact oV _) λm c g o t=>?_;by_cases d:m=n
 .rw[aA (by simpa using d)]
  exact h m p b c g o
 .rw[ao (by simpa using d)]
  have l:=t.resolve_left d;by_cases v:m>1
  .rw[aA v]
   refine rF hc b (i:=0) (j:=m - 1) ω ω ?_;cases w:O.blt (kp O key p 0) (kp O key p (m - 1)) with
   |true=>rw[aA rfl];exact h m p b c g o
   |false=>
    rw[ao bU];have u:∀k,0<=k->k<m->kp O key p k=kp O key p (m - 1):=λk _ q=>
     KeyOrd.kle_antisymm (o k (m - 1) ω ω) (yz w (o 0 k ω q))
    have q:=Ax (O:=O) (key:=key) (p:=p) (i:=0) (j:=m) ω u;refine HJ hc (b.rev 0 m) (aF n) ω (λi j a f=>?_) h;rw[q,q];have hd:Dn O key p m:=λi j a f=>by rw[u i ω ω,u j ω f];exact oV _
    exact(hd.snoc c (uq l)) i j a f
  .rw[ao v]
   have e:m=1:=ω
   subst e;have hd:Dn O key p 1:=λi j a f=>by have e:i=j:=ω;rw[e];exact oV _
   exact HJ hc b (aF n) ω (hd.snoc (aF _) (uq l)) h
theorem Bc{p:Array Nat}(g:Pm n p){k:Nat}(m:k<n)(d:Up O key p k){G:Nat->Shared->Prop}:∀(f l r:Nat),l<=r->r<=k->r - l<=f->(∀i,i<l->O.kle (kp O key p i) (kp O key p k))->(∀i,r<=i->i<k->O.klt (kp O key p k) (kp O key p i))->
  (∀l,l<=k->(∀i,i<l->O.kle (kp O key p i) (kp O key p k))->(∀i,l<=i->i<k->O.klt (kp O key p k) (kp O key p i))->G l s)->(kas_place p k f l r).kasWp cmp G s
 |0,l,r,o,q,u,a,b,h=>by
  have e:l=r:=ω
  exact h l ω a (e▸b)
 |f+1,l,r,o,q,u,a,b,h=>by
  unfold kas_place;by_cases c:l≥r
  .rw[aA c]
   have e:l=r:=ω
   exact h l ω a (e▸b)
  .rw[ao c]
   refine rF hc g (i:=k) (j:=(l+r)/2) m ω ?_;cases t:O.blt (kp O key p k) (kp O key p ((l+r)/2)) with
   |true=>
    rw[aA rfl];exact Bc g m d f l ((l+r)/2) ω ω ω a (λi i1 i2=>KeyOrd.klt_of_klt_of_kle t (d _ _ i1 i2)) h
   |false=>
    rw[ao bU];exact Bc g m d f ((l+r)/2+1) r ω ω ω (λi i1=>yz (d i ((l+r)/2) ω ω) t) b h
theorem D9{G:Array Nat->Shared->Prop}(h:∀g,Pm n g->Up O key g n->G g s):∀(f:Nat) (p:Array Nat) (k:Nat),Pm n p->k+f=n->Up O key p k->(kas_bin f p k).kasWp cmp G s
 |0,p,k,b,e,d=>h p b (by rw[<-e];exact d)
 |f+1,p,k,b,e,d=>by
  have hz:=b.size;unfold kas_bin;rw[KasT.kasWp_bind];refine Bc hc b ω d k 0 k ω (aF _) ω (λi hi=>ω) (λi i1 i2=>ω) λl r m o=>?_;refine D9 h f _ (k+1) ((bubble_perm _ _ _).trans b) ω λi j q t=>?_;have c:∀x,kp O key (bubble p k (k - l)) x=if x=l then kp O key p k else if l<x/\x<=k then kp O key p (x - 1) else kp O key p x:=λx=>by
   have a:=getElem?_bubble (xs:=p) (src:=k) ω (k - l) ω x;rw[show k - (k - l)=l by omega] at a;split
   .rename_i h1;rw[aA h1] at a;exact sC a
   .rename_i h1
    rw[ao h1] at a;split
    .rename_i h2;rw[aA h2] at a;exact sC a
    .rename_i h2;rw[ao h2] at a;exact sC a
  rw[c,c];repeat' split
  all_goals first
   |(exfalso;omega)
   |exact oV _
   |exact m _ ω
   |exact uq (o _ ω ω)
   |exact d _ _ ω ω
theorem XH{G:Array Nat->Shared->Prop}(h1:1<=n)(h:∀a,Pm n a->Up O key a n->G a s):(kas_sort n).kasWp cmp G s:=by
 unfold kas_sort;rw[KasT.kasWp_bind];refine Mv hc (Array.Perm.refl _) h1 λk p b e f c=>?_;by_cases d:k<n
 .simp only[d,lR]
  rw[show max k 1=k by omega];exact D9 hc h _ p k b ω c
 .simp only[d,gk]
  exact h p b (by rw[show n=k by omega];exact c)
end
end KO
namespace KP
open PySem PySem.W PySem.Spec PyProof.Rows KO
section
variable{prog:Program}{w:World}{A:Around}{E:aU}{s:Shared}
theorem Si{κ:SortKind}{O:KeyOrd}{key:Nat->O.α}{a:Addr}{vs:List Value}{n:Nat}{P:PySem.Fin->Shared->Prop}(m:s.heap.get? a=some (seqObj "list" vs.toArray n))(r:vs.length<64)
  (I:∀s':Shared,(∀b o,b≠a->s.heap.get? b=some o->s'.heap.get? b=some o)->2<=vs.length->∀R:SortKind->Shared->Prop,R κ s'->wpAny (model prog w) A (keyKind' vs.toArray) R (λ_ _=>False) s')
  (hc:∀s':Shared,(∀b o,b≠a->s.heap.get? b=some o->s'.heap.get? b=some o)->∀i j,i<vs.length->j<vs.length->∀C:Bool->Shared->Prop,C (O.blt (key i) (key j)) s'->kas_ask prog w A κ vs i j C s')
  (h:∀p:Array Nat,Pm vs.length p->Up O key p vs.length->P (.done (.ret .none)) {s with heap:=sortedHeap s.heap a vs (p.toList.map λi=>vs.getD i Value.none).toArray}):
  wpAny (model prog w) A (Builtin.«list.sort» ⟨[.ref a],[]⟩) P E s:=by
 rw[list_sort_plain]
 have H:a<s.heap.objs.size:=aR m
 refine ah (listItems_at m rfl ?_)
 refine ah (listUpdate_at m rfl ?_ (by rw[cg,lT];omega) (bQ _))
 obtain⟨t,g⟩:∃t,(s.heap.update a (Obj.mapSeq λ_=>(#[]:Array Value))).get? a=some (seqObj "list" #[] t):=⟨_,get?_update_seq m λ_=> #[]⟩
 refine ah (seqEpoch_at g rfl ?_)
 refine ah (wpAny_newTuple ?_ (by show vs.length<=_;rw[lT];omega))
 refine ah (uf ?_ (bQ _))
 refine fS ?_
 have c:(((s.heap.update a (Obj.mapSeq λ_=>(#[]:Array Value))).push (seqObj "tuple" vs.toArray 0)).push (seqObj "list" #[] 0)).get? a=some (seqObj "list" #[] t):=by
  rw[get?_push_ne _ _ _ (by rw[qB,qC];exact bB (gq H)),get?_push_ne _ _ _ (by rw[qC];exact bB H)]
  exact g
 have kp:∀b o,b≠a->s.heap.get? b=some o->(((s.heap.update a (Obj.mapSeq λ_=>(#[]:Array Value))).push (seqObj "tuple" vs.toArray 0)).push (seqObj "list" #[] 0)).get? b=some o:=λb o J q=>
  bu _ (bu _ (by rw[Heap.get?_update_ne _ _ _ _ J];exact q))
 show wpAny (model prog w) A _ P E {s with heap:=((s.heap.update a (Obj.mapSeq λ_=>(#[]:Array Value))).push (seqObj "tuple" vs.toArray 0)).push (seqObj "list" #[] 0)}
 dsimp only
 by_cases h2:vs.toArray.size<2
 .rw[aA h2,aA h2]
  refine ah (aD ?_)
  rw[StateT.run_pure]
  refine ah (aD ?_)
  dsimp only
  have u:vs.length<2:=by simpa using h2
  have e:=h (range vs.length).toArray (Array.Perm.refl _) λi j K W=>by
   have L:i=j:=ω
   rw[L];exact oV _
  have M:(arrOf (SortSt.mk' general' (vs.toArray.zip vs.toArray) #[] 7 none)).map (·.2)=((range vs.length).toArray.toList.map λi=>vs.getD i Value.none).toArray:=by
   refine kat_snds (ks:=vs) rfl ?_
   have e:=kas_range (vs.toArray.zip vs.toArray)
   rw[show(vs.toArray.zip vs.toArray).size=vs.length by simp] at e
   exact e.symm
  rw[M]
  refine ah (seqEpoch_at c rfl ?_)
  refine ah (listUpdate_at c rfl ?_ (bQ _) (by rw[cg,aK,length_range,lT];omega))
  simp only[ny,jG,gk]
  exact aD e
 .rw[ao h2,ao h2]
  have u:2<=vs.length:=by
   have:vs.toArray.size=vs.length:=θ
   omega
  obtain⟨f,v⟩:∃f:Shared,f={s with heap:=((s.heap.update a (Obj.mapSeq λ_=>(#[]:Array Value))).push (seqObj "tuple" vs.toArray 0)).push (seqObj "list" #[] 0)}:=⟨_,rfl⟩
  have k:∀b o,b≠a->s.heap.get? b=some o->f.heap.get? b=some o:=by rw[v];exact kp
  rw[<-v]
  refine ah (kU (I f k u (λl s'=>l=κ/\s'=f) ⟨rfl,rfl⟩) ?_ λ_ _ x=>x.elim)
  rintro l s' ⟨N,es⟩
  rw[N,es]
  refine ah (kU (kat_run (ks:=vs) (vs:=vs) (Q:=λd s'=>∃p:Array Nat,p.size=vs.length/\arrOf d=p.map (kas_item (vs.toArray.zip vs.toArray))/\failedOf d=none/\Pm vs.length p/\Up O key p vs.length/\s'=f)
   (G:=λp s'=>Pm vs.length p/\Up O key p vs.length/\s'=f) rfl u r (λS d s' a1 a2 a3 a4=>⟨S,a1,a2,a3,a4⟩)
   (XH (O:=O) (key:=key) (hc f k) ω λp y T=>⟨y,T,rfl⟩)) ?_ λ_ _ e=>e)
  rintro ⟨⟨⟩,d⟩ U ⟨p,y,z,V,B,D,F⟩
  dsimp only
  rw[F]
  rw[kat_snds rfl z]
  subst v
  refine ah (seqEpoch_at c rfl ?_)
  refine ah (listUpdate_at c rfl ?_ (bQ _) (by rw[cg,aK,gn,y,lT];omega))
  rw[V]
  simp only[ny,jG,gk]
  exact aD (h p B D)
theorem XI{κ:SortKind}{O:KeyOrd}{key:Nat->O.α}{l:Addr}{vs:List Value}{Q:aU}(f:s.heap.IsList l vs.toArray)(d:vs.length<64)
  (g:∀s':Shared,(∀b o,s.heap.get? b=some o->s'.heap.get? b=some o)->2<=vs.length->∀R:SortKind->Shared->Prop,R κ s'->wpAny (model prog w) A.in1.in1 (keyKind' vs.toArray) R (λ_ _=>False) s')
  (hc:∀s':Shared,(∀b o,s.heap.get? b=some o->s'.heap.get? b=some o)->∀i j,i<vs.length->j<vs.length->∀C:Bool->Shared->Prop,C (O.blt (key i) (key j)) s'->kas_ask prog w A.in1.in1 κ vs i j C s')
  (h:∀(p:Array Nat) (h':Heap) (D:Addr) (e:Nat),Pm vs.length p->Up O key p vs.length->s.heap.objs.size<=D->h'.get? D=some (seqObj "list" (p.toList.map λi=>vs.getD i Value.none).toArray e)->(∀b o,s.heap.get? b=some o->h'.get? b=some o)->Q (.ref D) {s with heap:=h'}):
  wpAny (model prog w) A (call (.builtin "sorted") [.ref l]) Q E s:=by
 refine ye kind_sorted plain_sorted entry_sorted (args_sorted1 _) ?_
 unfold Builtin.«sorted»
 refine ah (m:=checkCount "sorted" 1 1 _) (aD ?_)
 refine ah (collect_list f ?_ (by rw[lT];omega))
 refine ah (uf ?_ (by rw[lT];omega))
 have hsz:((s.heap.push (seqObj "list" #[] 0)).update s.heap.objs.size (Obj.mapSeq (·++vs.toArray))).objs.size=s.heap.objs.size+1:=by
  rw[qC,qB]
 have a:(((s.heap.push (seqObj "list" #[] 0)).update s.heap.objs.size (Obj.mapSeq (·++vs.toArray))).push (seqObj "list" vs.toArray 0)).get? (s.heap.objs.size+1)=some (seqObj "list" vs.toArray 0):=by
  rw[<-hsz];exact cu _ rfl
 have keep:∀b o,s.heap.get? b=some o->(((s.heap.push (seqObj "list" #[] 0)).update s.heap.objs.size (Obj.mapSeq (·++vs.toArray))).push (seqObj "list" vs.toArray 0)).get? b=some o:=λb o q=>by
  have c:b<s.heap.objs.size:=aR q
  rw[get?_push_ne _ _ _ (by rw[hsz];exact bB (gq c)),Heap.get?_update_ne _ _ _ _ (bB c),get?_push_ne _ _ _ (bB c)]
  exact q
 have ne:∀b o,s.heap.get? b=some o->b≠s.heap.objs.size+1:=λb o q=>bB (gq (aR q))
 show wpAny _ _ _ _ _ {s with heap:=((s.heap.push (seqObj "list" #[] 0)).update s.heap.objs.size (Obj.mapSeq (·++vs.toArray))).push (seqObj "list" vs.toArray 0)}
 rw[hsz]
 refine ah (fS (jf yl ⟨_,a,rfl⟩ yI ?body (yG _)))
 case body=>
  refine Si (κ:=κ) (O:=O) (key:=key) (s:={s with heap:=((s.heap.push (seqObj "list" #[] 0)).update s.heap.objs.size (Obj.mapSeq (·++vs.toArray))).push (seqObj "list" vs.toArray 0)})
   a d (λs' k=>g s' λb o q=>k b o (ne b o q) (keep b o q)) (λs' k=>hc s' λb o q=>k b o (ne b o q) (keep b o q)) λp n r=>⟨_,rfl,aD ⟨_,rfl,?_⟩⟩
  obtain⟨e,t⟩:=ym (out:=(p.toList.map λi=>vs.getD i Value.none).toArray) a
  refine h p _ _ e n r (le_succ _) t λb o q=> ?_
  rw[yo (ne b o q) (aR (keep b o q))]
  exact keep b o q
theorem GS{b fin r:Bool}{Q:Bool->Shared->Prop}(q:Q r s):∀{zs:List (Value×Value)} {i:Nat},0<i->L2.jK .Lt A s fin r zs->KatLex prog w A b fin Q zs i s
 |[],i,hi,h=>by
  cases h with
  |nil e=>exact kat_nil (by rw[e];exact q)
 |(y,x)::zs,i,hi,h=>by
  refine kat_cons ?_;cases h with
  |eq h1 h2=>exact h1 prog w _ _ (kat_yes (GS q ω h2))
  |ne h1 h2=>
   refine h1 prog w _ _ (kat_no ?_);have e:(b&&i==0)=false:=by
    cases i with
    |zero=>omega
    |succ i=>simp
   rw[e];exact kat_one _ _ (h2 prog w _ _ q)
theorem RJ{x y:Value}{a c:Str}{xs ys:List PyData}{as bs:List Addr}{r:Bool}{Q:Bool->Shared->Prop}(e:L2.ltQ (.tuple (.str a::xs)) (.tuple (.str c::ys))=some r)(t:Reads s.heap x (.tuple (.str a::xs)) as)(u:Reads s.heap y (.tuple (.str c::ys)) bs)
  (v:canLay0 (.tuple (.str a::xs))=true)(z:canLay0 (.tuple (.str c::ys))=true)(j:A.units+min (depthAll (.str a::xs)) (depthAll (.str c::ys))<cLine)(q:Q r s):wpAny (model prog w) A (keyLt' (tuples' true) x y) Q E s:=by
 cases t with
 | @tuple l o vs n _ h h1 h2 B k=>
  cases u with
  | @tuple l' o' b n' _ i k1 k2 k3 m=>
   refine kat_lt h1 B k1 k3 ?_;rw[L2.ltQ] at e;have hsz:decide (vs.size<b.size)=decide (vs.toList.length<b.toList.length):=θ
   rw[hsz];generalize vs.toList=F at k ⊢;generalize b.toList=C at m ⊢;have d:canLay0 (.str a)=true/\canLayAll0 xs=true:=by simpa[canLay0,canLayAll0] using v
   have f:canLay0 (.str c)=true/\canLayAll0 ys=true:=by simpa[canLay0,canLayAll0] using z
   cases k with
   |cons a1 a2=>
    cases m with
    |cons p D=>
     have g:=SeqAt.eqAt_reads (.str a) (.str c) A s _ _ _ _ a1 p d.1 f.1 (SeqAt.room_head j);cases a1;cases p;rw[List.zip_cons_cons,L2.GQ];refine kat_cons ?_;rw[L2.gy] at e;cases ce:PyData.eqv (.str a) (.str c) with
     |true=>
      rw[ce] at e g;exact g prog w _ _ (kat_yes (GS q ω (L2.AF xs ys A s _ _ _ _ r e a2 D d.2 f.2 (SeqAt.room_tail j))))
     |false=>
      rw[ce] at e g;refine g prog w _ _ (kat_no (oneLt_str ?_));have e:L2.ltQ (.str a) (.str c)=some r:=e;rw[L2.ltQ] at e;cases e;exact q
end
end KP
section
open PySem PySem.Spec PyProof.Rows
namespace L2
open PySem.SeqAt
theorem Nt{xs ys:List PyData}{u:Nat}(h1:(PyData.tuple xs).depth<=60)(a:u+64<cLine):u+2+min (depthAll xs) (depthAll ys)<cLine:=by
 have e:(PyData.tuple xs).depth=depthAll xs+1:=rfl;omega
theorem kat_tups{h:Heap}:∀{vs:List Value} {qs:List PyData},vs.length=qs.length->(∀(i:Nat) v q,vs[i]?=some v->qs[i]?=some q->∃as x r,Reads h v q as/\q=.tuple (.str x::r))->∃fs:List Value,fs.length=vs.length/\PySem.W.KatTups h vs fs/\∀v∈fs,∃x t,v=Value.str x t
 |[],[],_,_=>⟨[],rfl,.nil,λ_ h=>by cases h⟩
 |v::vs,q::qs,e,k=>by
  obtain⟨fs,h1,h2,c⟩:=kat_tups (vs:=vs) (qs:=qs) (by simpa using e) λi d f g j=>k (i+1) d f (by simpa using g) (by simpa using j);obtain⟨as,x,r,rd,rfl⟩:=k 0 v q rfl rfl;cases rd with
  | @tuple l o m n _ a p s u b=>
   generalize w:m.toList=ul at b;cases b with
   | @cons y vr _ _ _ _ a1 a2=>
    cases a1 with
    |str _ t=>
     refine⟨Value.str x t::fs,by simp[h1],.cons p s u ?_ h2,λv hv=>?_⟩
     .rw[<-qR,w];rfl
     .rcases aY.mp hv with rfl|hv
      .exact⟨x,t,rfl⟩
      .exact c v hv
section
variable{X:Cx}
theorem Em(hc:X.calm=true)(hu:X.A.units+64<cLine):eN X (.builtin "sorted") (λxs H Q=>∃(a:Addr) (vs:List V) (qs:List PyData) (O:KeyOrd) (key:Nat->O.α),xs=[.ref a]/\aV X.K H a vs/\vs.length<64/\vs.length=qs.length/\
  (∀(i:Nat) v q,vs[i]? =some v->qs[i]? =some q->Dp X.K H v q/\q.canLay0=true/\q.depth<=60/\∃x r,q= .tuple (.str x::r))/\(∀(i j:Nat) p q,qs[i]? =some p->qs[j]? =some q->ltQ p q=some (O.blt (key i) (key j)))/\
  ∀(l:Addr) (p:Array Nat),H l=none->KO.Pm vs.length p->KO.Up O key p vs.length->Q (.ref l) (upd H l (.lst (p.toList.map λi=>vs.getD i .aG)))):=by
 intro pins s σ H xs us Q I r h
 obtain⟨a,vs,qs,O,key,rfl,hq,B,hl,hd,hk,q⟩:=h
 obtain⟨u,rfl,ru⟩:=vals1 r
 cases ru
 obtain⟨its,E,pl,hz⟩:=I.list hq
 have F:=E.length
 have rd:∀(i:Nat) u p,its[i]? =some u->qs[i]? =some p->∃as x r,Reads s.heap u p as/\p= .tuple (.str x::r)/\p.canLay0=true/\p.depth<=60:=λi u p k G=>by
  have hi:i<its.length:=(bY.mp k).1
  obtain⟨u',m,J⟩:=Vals.get E (a_ (show i<vs.length by omega))
  rw[k] at m
  cases m
  obtain⟨d1,d2,d3,x,r,d4⟩:=hd i _ p (a_ (show i<vs.length by omega)) G
  obtain⟨as,d5⟩:=Dp.reads I p _ u d1 J
  exact⟨as,x,r,d5,d4,d2,d3⟩
 refine KP.XI (κ:=tuples' true) (O:=O) (key:=key) (vs:=its) pl.isList ω (λs' kp h2 R hR=> ?_) (λs' kp i j hi hj C hC=> ?_) λp h' D e L d hD ho kp=> ?_
 .obtain⟨fs,f1,f2,f3⟩:=kat_tups (h:=s'.heap) (vs:=its) (qs:=qs) ω λi v q k G=>by
   obtain⟨as,x,r,n,M,_⟩:=rd i v q k G
   exact⟨as,x,r,PyProof.Rows.Reads.keeps kp n,M⟩
  refine PySem.W.kat_kind (T:=Value.type "str") f2 ω (λv hv=> ?_) δ hR
  obtain⟨x,t,rfl⟩:=f3 v hv
  exact PySem.W.Looks.of_pure rfl
 .have N:=a_ hi
  have P:=a_ hj
  have S:=a_ (show i<qs.length by omega)
  have U:=a_ (show j<qs.length by omega)
  obtain⟨as,x,r,n,M,Y,Z⟩:=rd i _ _ N S
  obtain⟨bs,y,t,k1,k2,k3,k4⟩:=rd j _ _ P U
  have c:=hk i j _ _ S U
  rw[M] at n Y Z c
  rw[k2] at k1 k3 c
  unfold PySem.W.kas_ask
  rw[fT,fT,N,P]
  exact KP.RJ c (PyProof.Rows.Reads.keeps kp n) (PyProof.Rows.Reads.keeps kp k1) Y k3 (Nt Z hu) hC
 .have f:∀u,s.heap.get? D≠some u:=λu z=>absurd (cO (aR z) hD) (gp _)
  have hn:H D=none:=by
   cases e0:H D with
   |none=>rfl
   |some o=>
    obtain⟨u,z⟩:=(I.hok _ _ e0).obj
    exact absurd z (f u)
  rw[<-F] at L d
  refine⟨.ref D,upd H D (.lst (p.toList.map λi=>vs.getD i .aG)),?_,rfl,q D p hn L d⟩
  refine I.G6 (t':=s.toks) kp (k_.new hn _) λb o w=> ?_
  by_cases hb:b=D
  .subst hb
   rw[fh] at w
   cases w
   refine .inr ⟨f,?_⟩
   refine⟨by rw[aK,gn,L.size];exact ir (cO B δ),p.toList.map λi=>its.getD i Value.none,e,?_,ho⟩
   generalize p.toList=g
   induction g with
   |nil=>exact .nil
   |cons i g ih=>
    refine .cons ?_ ih
    show RelV (vs.getD i .aG) (its.getD i Value.none)
    rw[fT,fT]
    by_cases hi:i<vs.length
    .obtain⟨u',m,J⟩:=Vals.get E (a_ hi)
     rw[a_ hi,m]
     exact J
    .rw[o6 ω,o6 ω]
     rfl
  .rw[bf hb] at w
   exact .inl w
end
end L2
namespace DP
open L2
@[irreducible] def xP(r:Nat)(A:Ar)(R:DK):Prop:=match A[r]? with
 |some (.lst ds)=>ds.length<64/\(∀d∈ds,gf d=true/\(toQ d).canLay0=true/\(toQ d).depth<=60/\∃x r,toQ d=.tuple (.str x::r))/\
  ∃(O:KeyOrd) (key:D->O.α),(∀d∈ds,∀e∈ds,ltQ (toQ d) (toQ e)=some (O.blt (key d) (key e)))/\∀es:List D,es.Perm ds->es.Pairwise (λa b=>O.kle (key a) (key b))->R (.ref A.length) (A++[.lst es])
 |_=>False
noncomputable def Kf:gH:=λvs A R=>match vs with
 |[.ref r]=>xP r A R
 |_=>False
theorem SH{α:Type}(d:α):∀(l:List α),(range l.length).map (λi=>l.getD i d)=l:=λl=>by
 apply List.ext_getElem
 .simp
 .intro i h1 h2
  simp[h2]
theorem ER{mg:aB}{K:Frag}:iy mg (λxs H Q=>∃(a:Addr) (vs:List V) (qs:List PyData) (O:KeyOrd) (key:Nat->O.α),xs=[.ref a]/\aV K H a vs/\vs.length<64/\vs.length=qs.length/\
  (∀(i:Nat) v q,vs[i]? =some v->qs[i]? =some q->Dp K H v q/\q.canLay0=true/\q.depth<=60/\∃x r,q= .tuple (.str x::r))/\(∀(i j:Nat) p q,qs[i]? =some p->qs[j]? =some q->ltQ p q=some (O.blt (key i) (key j)))/\
  ∀(l:Addr) (p:Array Nat),H l=none->KO.Pm vs.length p->KO.Up O key p vs.length->Q (.ref l) (upd H l (.lst (p.toList.map λi=>vs.getD i .aG)))) Kf:=by
 intro ds A ι H T R Q ra rs h k
 unfold Kf at h
 split at h
 .obtain⟨_,_,rfl,⟨_,rfl⟩,rfl⟩:=rs
  unfold xP at h
  split at h
  .rename_i ds e
   obtain⟨E,hd,O,key,F,q⟩:=h
   obtain⟨xs,G,t⟩:=ra.lst e
   have z:=au.length t
   refine⟨_,xs,ds.map toQ,O,λi=>key (ds.getD i .aG),rfl,aV.of G,ω,by simp[z],λi v p c b=> ?_,λi j p U c b=> ?_,λl p I n g=> ?_⟩
   .rw[ck] at b
    cases f:ds[i]? with
    |none=>rw[f] at b;cases b
    |some d=>
     rw[f] at b
     cases b
     obtain⟨J,o,u⟩:=au.get t f
     rw[c] at o
     cases o
     obtain⟨p1,p2,L,M⟩:=hd d (cS f)
     exact⟨RV.dp _ _ p1 u,p2,L,M⟩
   .rw[ck] at c b
    cases f:ds[i]? with
    |none=>rw[f] at c;cases c
    |some d=>
     cases s:ds[j]? with
     |none=>rw[s] at b;cases b
     |some d'=>
      rw[f] at c
      rw[s] at b
      cases c
      cases b
      show ltQ (toQ d) (toQ d')=some (O.blt (key (ds.getD i .aG)) (key (ds.getD j .aG)))
      rw[fT,fT,f,s]
      exact F d (cS f) d' (cS s)
   .rw[<-z] at n g
    have hz:=n.size
    have w:(p.toList.map λi=>ds.getD i .aG).Perm ds:=by
     have:=(Array.perm_iff_toList_perm.mp n).map λi=>ds.getD i D.aG
     rwa [SH] at this
    refine jT k ra (ds:=p.toList.map λi=>ds.getD i .aG) ?_ (q _ w ?_) I
    .refine au.of_get θ λi d v c b=> ?_
     rw[ck] at c b
     cases ep:p.toList[i]? with
     |none=>rw[ep] at c;cases c
     |some m=>
      rw[ep] at c b
      have N:m<ds.length:=by
       have:=(Array.perm_iff_toList_perm.mp n).mem_iff.mp (cS ep)
       simpa using this
      have B:=a_ N
      obtain⟨J,o,u⟩:=au.get t B
      have c:some (ds.getD m .aG)=some d:=c
      have b:some (xs.getD m .aG)=some v:=b
      rw[fT,B] at c
      rw[fT,o] at b
      cases c
      cases b
      exact u
    .rw[jA,uc]
     intro i j hi C y
     have:=g i j (ir y) (by simpa[hz] using C)
     unfold KO.kp at this
     have P:p.getD i 0=p.toList[i]:=by
      rw[iM,eT (by simpa using hi)]
      simp
     have S:p.getD j 0=p.toList[j]:=by
      rw[iM,eT (by simpa using C)]
      simp
     rw[P,S] at this
     exact this
  .exact h.elim
 .exact h.elim
theorem Kg{A:Ar}{r:Nat}{ds:List D}{R:DK}(O:KeyOrd)(key:D->O.α)(h:A[r]?=some (.lst ds))(c:ds.length<64)(hd:∀d∈ds,gf d=true/\(toQ d).canLay0=true/\(toQ d).depth<=60/\∃x r,toQ d=.tuple (.str x::r))
  (f:∀d∈ds,∀e∈ds,ltQ (toQ d) (toQ e)=some (O.blt (key d) (key e)))(k:∀es:List D,es.Perm ds->es.Pairwise (λa b=>O.kle (key a) (key b))->R (.ref A.length) (A++[.lst es])):xP r A R:=by
 unfold xP;simp only[h];exact⟨c,hd,O,key,f,k⟩
abbrev gj:KeyOrd:=strKind.toKeyOrd
theorem Ko{a b:Str}(h:a.cps.toList=b.cps.toList):a=b:=by
 cases a;cases b;simp at h;simpa using Array.toList_inj.mp (by simpa using h)
section
variable{es:List Expr}{env:Env}{p:Pos}
theorem qe{c i}:starEach (.Constant c i p::es) env=(false,eval (.Constant c i p) env)::starEach es env:=rfl
end
end DP
namespace L2
abbrev TJ:=St->Hp->Str->(Str->Hp->Prop)->Prop
def PJ(X:Cx)(es:List Expr)(t:TJ):Prop:=∀(pins:aZ) (s:Shared) (σ:St) (H:Hp) (acc:Str) (Q:Str->Hp->Prop),Inv X pins σ H s->t σ H acc Q->
 Joins (model X.prog X.w) X.A X.xe (evalEach es X.env) acc (λout s'=>∃H',Inv X pins σ H' s'/\Q out H') s
noncomputable def z6:V->Option Str
 |.str y=>some y
 |.int i=>if i.natAbs.log2<1920 then some (Str.ofString (toString i)) else none
 |_=>none
section
variable{X:Cx}{es:List Expr}{t:TJ}{te:TE}{e:Expr}{p pos:Pos}
theorem uQ(x y:Str):(x++y).length=x.length+y.length:=ue
theorem U8:PJ X [] (λσ H acc Q=>Q acc H):=λpins s σ H acc Q I h=>⟨H,I,h⟩
theorem U7{x:Str}{k:Nat}(h:PJ X es t):PJ X (.Constant (.str x) k p::es) (λσ H acc Q=>acc.length+x.length<=sizeLine/\t σ H (acc++x) Q):=λpins s σ H acc Q I q=>by
 show wpAny _ _ (eval (.Constant (.str x) k p) X.env) _ _ _;exact Calls.Constant_str ⟨x,_,rfl,by rw[uQ];exact q.1,h pins _ σ H (acc++x) Q (I.tok _) q.2⟩
theorem U9(j:PE X e te)(h:PJ X es t):PJ X (.FormattedValue e (-1) none p::es) (λσ H acc Q=>te σ H λv H1=>∃y,z6 v=some y/\y.length<=sizeLine/\acc.length+y.length<=sizeLine/\t σ H1 (acc++y) Q):=λpins s σ H acc Q I q=>by
 show wpAny _ _ (eval (.FormattedValue e (-1) none p) X.env) _ _ _;refine wpAny_FormattedValue_plain (aJ (j pins s σ H _ I q) λu l ⟨v,H1,b,f,y,a,k,c,d⟩=>?_);cases v with
 |str z=>
  cases (show some z=some y from a);obtain⟨g,rfl⟩:=f;refine wpAny_formatField_str ?_ ?_ k
  .exact⟨_,g,rfl,by rw[uQ];exact c,h pins _ σ H1 _ Q b d⟩
  .exact⟨_,_,rfl,by rw[uQ];exact c,h pins _ σ H1 _ Q (b.tok _) d⟩
 |int i=>
  obtain⟨g,rfl⟩:=f;unfold z6 at a;simp only at a;split at a
  .rename_i hi
   cases a;refine wpAny_formatField_int hi ?_;exact⟨_,_,rfl,by rw[uQ];exact c,h pins _ σ H1 _ Q ((b.tok _).tok _) d⟩
  .cases a
 |_=>cases a
theorem UH{d v2:Expr}{rest:List Expr}(h:PJ X (d::v2::rest) t):PE X (.JoinedStr (d::v2::rest) pos) (λσ H Q=>t σ H Str.empty λout H'=>out.length<=sizeLine/\Q (.str out) H'):=λpins s σ H Q I q=>by
 refine wpAny_JoinedStr (a (h pins s σ H _ _ I q) ?_);rintro out s' ⟨H',f,c,g⟩;exact⟨c,.str out,H',f.tok _,⟨_,rfl⟩,g⟩
where
 a {M:Model} {A:Around} {E:aU}:∀{ps:List (Sem Value)} {acc:Str} {Q b:Str->Shared->Prop} {s:Shared},Joins M A E ps acc Q s->(∀o s',Q o s'->b o s')->Joins M A E ps acc b s
  |[],acc,Q,b,s,h,k=>k _ _ h
  |x::ps,acc,Q,b,s,h,k=>kU h (λv i ⟨y,t,e,c,r⟩=>⟨y,t,e,c,a r k⟩) λ_ _ z=>z
end
end L2
namespace DP
open L2
abbrev mj:=bO->Ar->Str->(Str->Ar->Prop)->Prop
noncomputable def qp(mg:aB)(N:En)(m:mj):TJ:=λσ H acc Q=>∃A ι τ R,dH mg N A ι τ σ H/\m τ A acc R/\∀out A' ι' H',R out A'->Ext A ι H A' ι' H'->RA mg ι' H' A'->Q out H'
noncomputable def nQ:D->Option Str
 |.str y=>some y
 |.int i=>if i.natAbs.log2<1920 then some (Str.ofString (toString i)) else none
 |_=>none
noncomputable def MR:mj:=λ_ A acc R=>R acc A
noncomputable def MQ(x:Str)(m:mj):mj:=λτ A acc R=>acc.length+x.length<=sizeLine/\m τ A (acc++x) R
noncomputable def MT(me:aP)(m:mj):mj:=λτ A acc R=>me τ A λv A1=>match nQ v with
 |some y=>y.length<=sizeLine/\acc.length+y.length<=sizeLine/\m τ A1 (acc++y) R
 |none=>False
noncomputable def MS(m:mj):aP:=λτ A R=>m τ A Str.empty λout A1=>out.length<=sizeLine/\R (.str out) A1
section
variable{X:Cx}{N:En}{es:List Expr}{m:mj}{me:aP}{e:Expr}{p pos:Pos}
theorem PJ.w{t t':TJ}(h:PJ X es t)(w:∀σ H acc Q,t' σ H acc Q->t σ H acc Q):PJ X es t':=λpins s σ H acc Q I q=>h pins s σ H acc Q I (w σ H acc Q q)
theorem ND:PJ X [] (qp X.mg N MR):=PJ.w U8 λσ H acc Q q=>by
 obtain⟨A,ι,τ,R,S,q,k⟩:=q;exact k acc A ι H q S.ra.refl S.ra
theorem Fc{x:Str}{k:Nat}(h:PJ X es (qp X.mg N m)):PJ X (.Constant (.str x) k p::es) (qp X.mg N (MQ x m)):=PJ.w (U7 h) λσ H acc Q q=>by
 obtain⟨A,ι,τ,R,S,q,k⟩:=q;exact⟨q.1,A,ι,τ,R,S,q.2,k⟩
theorem NF(l:PE X e (up X.mg N me))(h:PJ X es (qp X.mg N m)):PJ X (.FormattedValue e (-1) none p::es) (qp X.mg N (MT me m)):=PJ.w (U9 l h) λσ H acc Q q=>by
 obtain⟨A,ι,τ,R,S,q,k⟩:=q;refine⟨A,ι,τ,_,S,q,λv b c H1 u a g n j=>?_⟩;have ev:z6 u=nQ v\/nQ v=none:=by
  cases v with
  |str y=>cases j;exact .inl rfl
  |int i=>cases j;exact .inl rfl
  |_=>exact .inr rfl
 rcases ev with ev|ev
 .cases d:nQ v with
  |none=>
   have a:(match nQ v with|some y=>y.length<=sizeLine/\acc.length+y.length<=sizeLine/\m τ b (acc++y) R|none=>False):=a;rw[d] at a;exact a.elim
  |some y=>
   have a:(match nQ v with|some y=>y.length<=sizeLine/\acc.length+y.length<=sizeLine/\m τ b (acc++y) R|none=>False):=a;rw[d] at a;exact⟨y,ev.trans d,a.1,a.2.1,b,c,τ,R,S.next g n,a.2.2,λout o f H2 r s t=>k out o f H2 r (g.trans s) t⟩
 .have a:(match nQ v with|some y=>y.length<=sizeLine/\acc.length+y.length<=sizeLine/\m τ b (acc++y) R|none=>False):=a
  rw[ev] at a;exact a.elim
theorem Nj{a v2:Expr}{rest:List Expr}(h:PJ X (a::v2::rest) (qp X.mg N m)):PE X (.JoinedStr (a::v2::rest) pos) (up X.mg N (MS m)):=dJ (UH h) λσ H Q q=>by
 obtain⟨A,ι,τ,R,S,q,k⟩:=q;refine⟨A,ι,τ,_,S,q,λout f c H1 b d e=>⟨b.1,(k.from d).here e b.2 rfl⟩⟩
noncomputable def IE(i:Nat)(m:aP):dF:=λR τ A=>match lk τ i with
 |some (.int a)=>m τ A λy A1=>match y with
  |.int b=>R.nx (τ.set i (some (.int (a+b)))) A1
  |_=>False
 |_=>False
theorem NH{i:Nat}{x:Str}{pos':Pos}(h:X.N.Nodup)(hi:X.N[i]?=some x)(j:Loc X.env.scope x)(l:PE X e (up X.mg N me))(m:X.fn x=true\/X.env.scope.names.lookup x=some .local:=by first|exact .inl rfl|exact .inr rfl|assumption):
  PS X (.AugAssign (.Name x pos') .Add e pos) (dj X.mg N (IE i me)):=iT (Vn h hi j l Rg m) λQ σ H q=>by
 obtain⟨A,ι,τ,R,S,q,k⟩:=q;unfold IE at q;cases c:lk τ i with
 |none=>rw[c] at q;exact q.elim
 |some d=>
  rw[c] at q;cases d with
  |int a=>
   obtain⟨v,h1,h2⟩:=S.rs.at' i _ c;cases h2;refine⟨.int a,h1,A,ι,τ,_,S,q,λy r n H1 u f g o p=>?_⟩;cases y with
   |int b=>
    cases p;exact⟨a,b,rfl,rfl,(k.nx.from g).here ((S.next g o).set (d:=.int (a+b)) (v:=.int (a+b)) rfl) f⟩
   |_=>exact f.elim
  |_=>exact q.elim
end
end DP
namespace L2
theorem boot_reversed:bootBuiltins "reversed"=some (.type "reversed"):=η
noncomputable def yU(K:Frag)(a:Addr)(n:Nat):It:=
 ⟨λi H=>∃xs,aV K H a xs/\xs.length=n/\i<n,λi H x H'=>H'=H/\∀xs,aV K H a xs->xs[n - 1 - i]?=some x,λi H=>n<=i⟩
theorem YT{P:Program}{w:World}{K:Frag}{tg:Expr}(a it:Addr)(n:Nat):Turn P w K tg (yU K a n) [it] it (λi h=>PySem.Heap.IsRevIter h it a ((n:Int) - 1 - i)/\i<=n) where
 mem:=θ
 obj:=λi h st b g=>by
  have e:b=it:=by simpa using g
  subst e
  obtain⟨⟨o,e,c,d⟩,_⟩:=st
  exact⟨o,e,λv z=>by rw[d] at z;cases z⟩
 keep:=λi h h' st k=>⟨st.1.at λo e=>k it θ o e,st.2⟩
 item:=by
  intro X q r t hc i pins s σ H E I l st m
  subst q r t
  obtain⟨xs,C,S,hi⟩:=m
  obtain⟨its,F,p,hz⟩:=I.list C
  have D:xs[n - 1 - i]? =some (xs[n - 1 - i]' ω):=a_ ω
  obtain⟨u,G,J⟩:=F.get D
  obtain⟨f0,f1,f2,y,f4,A⟩:=l it θ
  have B:(n:Int) - 1 - i=((n - 1 - i:Nat):Int):=ω
  have f:=st.1
  rw[B] at f
  refine PySem.wpAny_pyNext_rev_item f p.isList (x:=u) (by simpa using G) λh' j L=> ?_
  have M:Inv X pins σ H {s with heap:=h'}:=I.turned (t':=s.toks) (λb o g e=>(L.2 b g).trans e) f0 f1 y f4 A
  obtain⟨o,e,c,d⟩:=id j
  refine⟨u,rfl,rY (s:={s with heap:=h'}) e c d δ ⟨_,H,M,J,⟨rfl,λys N=>by rw[I.AG N C];exact D⟩,⟨?_,ω⟩,λb g=>(l b g).1⟩⟩
  have O:(n:Int) - 1 - ((i+1:Nat):Int)=((n - 1 - i:Nat):Int) - 1:=ω
  rw[O]
  exact j
 done:=by
  intro X q r t hc i pins s σ H E I l st m
  subst q r t
  have m:n<=i:=m
  obtain⟨f0,f1,f2,y,f4,A⟩:=l it θ
  obtain⟨f,Q⟩:=st
  have B:(n:Int) - 1 - i= -1:=ω
  rw[B] at f
  exact PySem.wpAny_pyNext_rev_end (I.ok.hd hc) f λh' R=>⟨rfl,I.turned (t':=s.toks) (λb o g e=>R b o g e) f0 f1 y f4 A⟩
 self:=λ_ _ _ _ _ st h=>PySem.wpAny_pyIter_revIter st.1 h
section
variable{X:Cx}
noncomputable def Q0(K:Frag)(ta:TA):TI:=λσ H R=>ta σ H λvs H1=>∃a xs,vs=[.ref a]/\aV K H1 a xs/\R (yU K a xs.length) H1
theorem U1{tg l:Expr}{ta:TA}{p pos:Pos}(f:Gl X "reversed")(g:X.mg "reversed"=none)(i:PA X [l] ta)(j:starEach [l] X.env=[(false,eval l X.env)]:=by rfl):
  PI X tg (.Call (.Name "reversed" p) [l] [] pos) (Q0 X.K ta):=by
 intro pins s σ H R I h;refine Call_ (jv I f g boot_reversed (ng (aJ (i pos pins s σ H _ I h) λw c ⟨vs,H1,d,k,m⟩=>?_) j rfl));obtain⟨a,xs,e,n,q⟩:=m;subst e;obtain⟨u,rfl,r⟩:=vals1 k;cases r;obtain⟨its,t,pl,hz⟩:=d.list n;have x:=t.length;refine PySem.call_reversed_list pl.isList ?_;have st:PySem.Heap.IsRevIter (c.heap.push (PySem.revObj a ((its.toArray.size:Int) - 1))) c.heap.objs.size a ((xs.length:Int) - 1 - (0:Nat)):=by
  refine⟨_,cu _ rfl,rfl,?_⟩;have e:((its.toArray.size:Int) - 1)=((xs.length:Int) - 1 - (0:Nat)):=by simp;omega
  rw[<-e];rfl
 refine PySem.wpAny_pyIter_revIter st ⟨c.heap.objs.size,[c.heap.objs.size],_,_,H1,rfl,d.kept (t':=c.toks) λb o e=>bu _ e,YT a _ _,⟨st,bQ _⟩,λb v=>?_,q⟩;have e:b=c.heap.objs.size:=by simpa using v
 subst e;exact d.mP (aF _) (d.hok.fresh (aF _))
end
end L2
namespace DP
open L2
section
variable{mg:aB}{K:Frag}{A:Ar}{ι:Io}{H:Hp}
noncomputable def iF(ds:List D):List D:=ds.zipIdx.map λp=>D.tup [.int ((p.2:Nat):Int),p.1]
theorem N2{ds:List D}{i:Nat}{d:D}(h:(iF ds)[i]?=some d):∃x,ds[i]?=some x/\d=.tup [.int ((i:Nat):Int),x]:=by
 unfold iF at h;rw[ck,Cr] at h;cases e:ds[i]? with
 |none=>rw[e] at h;cases h
 |some x=>
  rw[e] at h;simp at h;exact⟨x,rfl,h.symm⟩
theorem Rt{q:Nat}{ds:List D}(f:q<A.length):k9 mg A ι H (yQ K (ι q)) (iF ds) (λA'=>A'[q]?=some (.lst ds)) where
 go:=λi d c a H1 hd e r hc=>by
  obtain⟨xs,h1,h2⟩:=r.lst hc;rw[e.ag q f] at h1;obtain⟨x,j,rfl⟩:=N2 hd;obtain⟨v,g,k⟩:=au.get h2 j;refine⟨⟨xs,v,aV.of h1,g⟩,λy H' z=>?_⟩;obtain⟨p,m,h,rfl,rfl,l⟩:=z;have:=l xs (aV.of h1);rw[g] at this;cases this;have E:Ext c a H1 c a (upd H1 p (.tup [.int (i:Nat),v])):=r.vA h;exact⟨E,r.fix E λb o z=>by rw[bf (dh z h)];exact z,p,[.int (i:Nat),v],rfl,fh,_,_,rfl,rfl,_,_,rfl,RV.ext E _ _ k,rfl⟩
 stop:=λc a H1 e r hc=>by
  obtain⟨xs,h1,h2⟩:=r.lst hc;rw[e.ag q f] at h1;exact⟨xs,aV.of h1,by rw[<-au.length h2];simp[iF]⟩
theorem Rx{q:Nat}{ds:List D}{n:Nat}(b:n=ds.length)(c:q<A.length):k9 mg A ι H (yU K (ι q) n) ds.reverse (λA'=>A'[q]?=some (.lst ds)) where
 go:=λi d f a H1 hd e r hc=>by
  obtain⟨xs,h1,h2⟩:=r.lst hc;rw[e.ag q c] at h1;have j:=au.length h2;have hi:=(bY.mp hd).1;rw[List.length_reverse] at hi;rw[List.getElem?_reverse hi] at hd;obtain⟨v,g,h⟩:=au.get h2 hd;refine⟨⟨xs,aV.of h1,ω,ω⟩,λx H' y=>?_⟩;obtain⟨rfl,y⟩:=y;have:=y xs (aV.of h1);rw[b,g] at this;cases this;exact⟨r.refl,r,h⟩
 stop:=λf a H1 e r hc=>by
  show n<=ds.reverse.length;rw[List.length_reverse];omega
end
@[irreducible] def mR(f:List D->List D)(r:Nat)(A:Ar)(R:List D->(Ar->Prop)->Ar->Prop):Prop:=match A[r]? with
 |some (.lst ds)=>R (f ds) (λA'=>A'[r]?=some (.lst ds)) A
 |_=>False
theorem Av{f:List D->List D}{r:Nat}{A:Ar}{ds:List D}{R:List D->(Ar->Prop)->Ar->Prop}(h:A[r]?=some (.lst ds))(k:R (f ds) (λA'=>A'[r]?=some (.lst ds)) A):mR f r A R:=by
 unfold mR;rw[h];exact k
noncomputable def QW(n:dw):jj:=λτ A R=>n τ A λvs A1=>match vs with
 |[.ref r]=>mR iF r A1 R
 |_=>False
noncomputable def Q3(n:dw):jj:=λτ A R=>n τ A λvs A1=>match vs with
 |[.ref r]=>mR List.reverse r A1 R
 |_=>False
section
variable{X:Cx}{N:En}{tg l:Expr}{n:dw}{p pos:Pos}
theorem E9{elts:List Expr}{k:Nat}{tpos:Pos}(g:X.mg "enumerate"=none)(h:PA X [l] (fO X.mg N n))(i:Gl X "enumerate":=by rfl)(j:starEach [l] X.env=[(false,eval l X.env)]:=by rfl):PI X (.Tuple elts k tpos) (.Call (.Name "enumerate" p) [l] [] pos) (jz X.mg N (QW n)):=pM (UY i g h boot_enumerate j) λσ H Q q=>by
 obtain⟨A,ι,τ,R,S,q,k⟩:=q;refine⟨A,ι,τ,_,S,q,λvs d b H1 s a m f c=>?_⟩;match vs,a,c with
 |[.ref r],a,c=>
  obtain⟨_,_,rfl,⟨o,rfl⟩,rfl⟩:=c;have a:mR iF r d R:=a;unfold mR at a;split at a
  .rename_i ds e
   obtain⟨xs,h1,h2⟩:=f.lst e;exact⟨_,xs,rfl,aV.of h1,k _ _ d b H1 _ a m f (Rt o)⟩
  .exact a.elim
theorem Nv(g:X.mg "reversed"=none)(h:PA X [l] (fO X.mg N n))(i:Gl X "reversed":=by rfl)(j:starEach [l] X.env=[(false,eval l X.env)]:=by rfl):PI X tg (.Call (.Name "reversed" p) [l] [] pos) (jz X.mg N (Q3 n)):=pM (U1 i g h j) λσ H Q q=>by
 obtain⟨A,ι,τ,R,S,q,k⟩:=q;refine⟨A,ι,τ,_,S,q,λvs d b H1 s a m f c=>?_⟩;match vs,a,c with
 |[.ref r],a,c=>
  obtain⟨_,_,rfl,⟨o,rfl⟩,rfl⟩:=c;have a:mR List.reverse r d R:=a;unfold mR at a;split at a
  .rename_i ds e
   obtain⟨xs,h1,h2⟩:=f.lst e;exact⟨_,xs,rfl,aV.of h1,k _ _ d b H1 _ a m f (Rx (au.length h2).symm o)⟩
  .exact a.elim
end
end DP
namespace L2
section
variable{X:Cx}
noncomputable def Im:V->List V->Hp->VK->Prop:=λx vs H Q=>∃d o kvs more,x=.ref d/\vs=[.ref o]/\d≠o/\H d=some (.dK kvs)/\H o=some (.dK more)/\kvs.length+more.length<=1000/\Q .aG (upd H d (.dK (kJ kvs more)))
theorem Hf:yV X "dict.update" Im:=by
 intro pins s σ H x vs v y Q I i j h;obtain⟨d,o,kvs,a,rfl,rfl,b,hd,k,hz,q⟩:=h;cases i;obtain⟨u,rfl,l⟩:=j.one;cases l;obtain⟨z,m,c,k1,dd⟩:=vm I.hok hd;obtain⟨A,n,e,k2,f⟩:=vm I.hok k;have g:(1000:Nat)<=sizeLine:=δ
 have l1:=k1.length;have l2:=k2.length;have lm:=AD a kvs;refine call_meetsIn slot_dict_update (dd.typeIs) PySem.F.entry_dict_update (PySem.F.args_dict_update_2 _ _) (PySem.meets_dict_update (dg X.prog X.w) d o b n) ?_;refine⟨c,e,dd,f,ω,λh' h1 h2 p=>?_⟩;have r:∃q,h'.get? d=some q:=let ⟨q,_,_,t,_⟩:=h1;⟨q,t⟩;exact⟨.aG,_,u7 I (by rw[hd];exact True.intro) p r (zU ω m (k2.merge k1) h1),rfl,q⟩
theorem CmpOf.X3{prog:Program}{w:World}{A:Around}{P:Nat->Value->Prop}(val:Nat->Str)(a:∀i v,P i v->∃t,v=.str (val i) t):
  CmpOf prog w A .Lt P (λi j=>decide ((val i).cps.toList<(val j).cps.toList)):=λi j b c s Q E hi d h=>by
 obtain⟨t,rfl⟩:=a i b hi;obtain⟨u,rfl⟩:=a j c d;exact PySem.P.lt_str h
theorem D0(val:Nat->Str):∀k,argBest (λi j=>decide ((val i).cps.toList<(val j).cps.toList)) k<=k/\∀j,j<=k->¬(val j).cps.toList<(val (argBest (λi j=>decide ((val i).cps.toList<(val j).cps.toList)) k)).cps.toList
 |0=>⟨aF _,λj c=>by
  have:j=0:=ω
  subst this;exact j5 _⟩
 |k+1=>by
  obtain⟨h1,h2⟩:=D0 val k;have e:argBest (λi j=>decide ((val i).cps.toList<(val j).cps.toList)) (k+1)=if decide ((val (k+1)).cps.toList<(val (argBest (λi j=>decide ((val i).cps.toList<(val j).cps.toList)) k)).cps.toList)=true then k+1 else argBest (λi j=>decide ((val i).cps.toList<(val j).cps.toList)) k:=rfl
  rw[e];split
  .rename_i h
   rw[nC] at h;refine⟨aF _,λj c a=>?_⟩;by_cases b:j=k+1
   .subst b
    exact j5 _ a
   .exact h2 j ω (ur a h)
  .rename_i h
   rw[nC] at h;refine⟨ω,λj c=>?_⟩;by_cases b:j=k+1
   .subst b
    exact h
   .exact h2 j ω
theorem Mh(hc:X.calm=true):eN X (.builtin "min") (λxs H Q=>∃(d:Addr) (kvs:List (Key×V)) (ns:List Str),xs=[.ref d]/\Rd H d (.dK kvs)/\kvs.map (·.1)=ns.map Sum.inr/\ns≠[]/\∀m∈ns,(∀n∈ns,¬n.cps.toList<m.cps.toList)->Q (.str m) H):=by
 intro pins s σ H xs S Q I r h;obtain⟨d,kvs,ns,rfl,hd,C,p,q⟩:=h;obtain⟨u,rfl,E⟩:=vals1 r;cases E;have D:=yb.mpr p;obtain⟨hz,F,vs,rel,dd⟩:=nO I.hok hd;obtain⟨ep,a⟩:=dd.dictAt;have f:kvs.length=ns.length:=by
  have:=cj List.length C;simpa using this
 have G:vs.length=ns.length:=by rw[<-rel.length,f]
 have g:d<s.heap.objs.size:=by obtain⟨o,_,y,_⟩:=a;exact aR y
 have keys:∀i v,(∃k x,vs[i]?=some (k,x)/\(dg X.prog X.w).is k v=true)->∃t:Tok,v=.str (ns.getD i default) t:=λi v ⟨k,x,h1,h2⟩=>by
  have J:=rel.keys;have c:(vs.map (·.1))[i]?=some k:=by rw[ck,h1];rfl
  rw[<-J,C,ck] at c;cases e:ns[i]? with
  |none=>rw[e] at c;cases c
  |some n=>
   rw[e] at c;have c:k=Sum.inr n:=(Option.some.inj c).symm;subst c;rcases ju (show lI (Sum.inr n) v=true from h2) with⟨_,_,z,_⟩|⟨T,t,z,K⟩
   .cases z
   .cases z
    refine⟨t,?_⟩;rw[fT,e];exact K
 refine call_min_walk ?_;refine wpAny_pyIter_dict (knd:=dg X.prog X.w) F a ⟨s.heap.objs.size,_,_,_,_,_,_,rfl,Walks.dictKeys (knd:=dg X.prog X.w) (A:=X.A.in1) (I.ok.hd hc) s.heap.objs.size d (bB g) vs ep,⟨⟨_,cu _ rfl,rfl,rfl⟩,?_⟩,λb hb=>?_,ω,CmpOf.X3 (λi=>ns.getD i default) keys,λv h' U L B=>?_⟩
 .obtain⟨o,es,y,r⟩:=a
  exact⟨o,es,bu _ y,r⟩
 .show b<(s.heap.push _).objs.size
  rw[qB];rcases aY.mp hb with e|hb
  .rw[e];exact lS _
  .rw[bI.mp hb];exact gq g
 .obtain⟨t,rfl⟩:=keys _ v L
  obtain⟨W,M⟩:=D0 (λi=>ns.getD i default) (vs.length - 1);have hi:argBest (λi j=>decide ((ns.getD i default).cps.toList<(ns.getD j default).cps.toList)) (vs.length - 1)<ns.length:=ω
  have l:ns.getD (argBest (λi j=>decide ((ns.getD i default).cps.toList<(ns.getD j default).cps.toList)) (vs.length - 1)) default∈ns:=by
   rw[fT,a_ hi];exact kY hi
  have N:=q _ l λn O=>by
   obtain⟨j,P,e⟩:=jc O;have:=M j ω;rw[fT,a_ P] at this;rw[<-e];exact this
  exact⟨.str _,H,I.kept λb o e=>B b o (λz=>by
   have R:b=s.heap.objs.size:=by simpa using z
   exact absurd (aR e) (by rw[R];exact gp _)) (bu _ e),⟨_,rfl⟩,N⟩
end
end L2
namespace DP
open L2
noncomputable def MM(mk mv:aP):aP:=λτ A R=>mk τ A λk A1=>mv τ A1 λv A2=>match gc k with
 |some ky=>R (.ref A2.length) (A2++[.dct [(ky,v)]])
 |none=>False
theorem EW{X:Cx}{N:En}{pos:Pos}{k v:Expr}{mk mv:aP}(P:PE X k (up X.mg N mk))(T:PE X v (up X.mg N mv)):PE X (.Dict [some k] [v] pos) (up X.mg N (MM mk mv)):=
 dJ (Uz (Vi P T Vj) rfl rfl θ (show 1<=15 by decide)) λσ H Q q=>by
  obtain⟨A,ι,τ,R,S,q,U⟩:=q;intro p n;have F:=S.ra.vA (o:=.dK []) n;have G:dH X.mg N A ι τ σ (upd H p (.dK [])):=S.next F (S.ra.fix F λb o z=>by rw[bf (dh z n)];exact z);have off:∀r,r<A.length->ι r≠p:=λr g z=>by
   obtain⟨o,h1,_⟩:=S.ra.im r g;rw[z,n] at h1;cases h1
  refine⟨A,ι,τ,_,G,q,λI V B H1 x W J Y Z=>?_⟩;refine⟨V,B,τ,_,G.next J Y,W,λw a i H2 y t e2 K v2=>?_⟩;have d:=J.trans e2;have L:H2 p=some (.dK []):=d.mo p _ fh off;have f:∀r,r<a.length->i r≠p:=λr g z=>by
   by_cases M:r<A.length
   .rw[d.ag r M] at z;exact off r M z
   .have:=d.nw r ω g
    rw[z,fh] at this;cases this
  have t:(match gc I with|some l=>R (.ref a.length) (a++[.dct [(l,w)]])|none=>False):=t;cases D:gc I with
  |none=>rw[D] at t;exact t.elim
  |some l=>
  rw[D] at t;have ex:x=kV l:=nX D Z;subst ex;refine⟨L,[(l,y)],rfl,show 1<=15 by decide,?_⟩;have em:kJ [] [(l,y)]=[(l,y)]:=rfl;rw[em];obtain⟨j,e,at2⟩:∃j:Io,(∀r,r<a.length->j r=i r)/\j a.length=p:=⟨λr=>if r=a.length then p else i r,λr h=>by
   show(if r=a.length then p else i r)=i r;rw[ao ω],by
   show(if a.length=a.length then p else i a.length)=p;rw[aA rfl]⟩
  have O:∀b o,jx o=false->H2 b=some o->upd H2 p (.dK [(l,y)]) b=some o:=λb o m z=>by
   rw[bf]
   .exact z
   .rintro rfl
    rw[L] at z;cases z;cases m
  refine U (.ref a.length) (a++[.dct [(l,w)]]) j _ _ t ⟨?_,λr h=>?_,S.ra.im,λb o h hn=>?_,λr h1 h2=>?_,λb o h=>?_⟩ ⟨λr c h=>?_,λr s g hs h=>?_⟩ ⟨θ,by rw[at2]⟩
  .have:=d.len;simp;omega
  .rw[e r (cO h d.len)];exact d.ag r h
  .have u:b≠p:=dh h n
   rw[bf u];exact d.mo b o (by rw[bf u];exact h) hn
  .by_cases g:r<a.length
   .rw[e r g]
    have:=d.nw r h1 g;rw[bf (f r g)] at this;exact this
   .have:r=a.length:=by simp at h2;omega
    subst this;rw[at2];exact n
  .have u:b≠p:=dh h n
   obtain⟨o',h'⟩:=d.al b o (by rw[bf u];exact h);exact⟨o',by rw[bf u];exact h'⟩
  .by_cases g:r<a.length
   .rw[iu g] at h
    have:=CO.ag (n':=(a++[C.dct [(l,w)]]).length) (ι':=j) (H':=upd H2 p (.dK [(l,y)])) θ e O (λo z=>by rw[bf (f r g)];exact z) c (K.iC r c h);rw[e r g];exact this
   .have E:r=a.length:=by
     have:=(bY.mp h).1;simp at this;omega
    subst E;simp at h;subst h;rw[at2];exact⟨_,fh,y,[],rfl,RV.ag θ e O w y v2,rfl⟩
  .simp at g hs
   by_cases h1:r=a.length
   .by_cases h2:s=a.length
    .rw[h1,h2]
    .subst h1
     rw[at2,e s ω] at h;exact absurd h.symm (f s ω)
   .by_cases h2:s=a.length
    .subst h2
     rw[at2,e r ω] at h;exact absurd h (f r ω)
    .rw[e r ω,e s ω] at h
     exact K.inj r s ω ω h
noncomputable def vM(A:Ar):D->Bool
 |.ref r=>match A[r]? with
  |some (.dct _)=>true
  |_=>false
 |_=>false
noncomputable def EH(f:mh)(mo:aP)(m:dw):aP:=λτ A R=>mo τ A λx A1=>vM A1 x=true/\m τ A1 λvs A2=>f x vs A2 R
theorem Gx{A:Ar}{r:Nat}{kvs:List (Key×D)}(h:A[r]?=some (.dct kvs)):vM A (.ref r)=true:=by unfold vM;simp only[h]
section
variable{X:Cx}{N:En}{e o:Expr}{es:List Expr}{mo:aP}{m:dw}{apos cpos:Pos}{f:mh}{r:V->List V->Hp->VK->Prop}{name:Str}{id:String}
theorem EZ(w:PlainAttrs "dict")(slot:Slot "dict" name id)(h:typeOf (.builtin id)=pure (.type "method_descriptor"))(y:yW X id r)(hd:q_ X.mg X.K "dict" r f)(z:PE X o (up X.mg N mo))(B:PA X (e::es) (fO X.mg N m))
  (b:attributeBase o name X.env (eval o X.env)=eval o X.env:=by rfl)
  (d:((backTo cpos (starEach (e::es) X.env)).all (λx=> !x.1)&&(backToKw cpos (keywordEach [] X.env)).all (λx=>x.1.isSome)
   &&decide ((e::es).length+([]:List Keyword).length+(if ([]:List Keyword).isEmpty then 0 else 1)<30))=true:=by rfl)
  (c:(apos.endLine==cpos.line)=true:=by rfl)(C:starEach (e::es) X.env=(false,eval e X.env)::starEach es X.env:=by rfl)(a:(backTo cpos (starEach es X.env)).any (·.1)=false:=by rfl):
  PE X (.Call (.Attribute o name apos) (e::es) [] cpos) (up X.mg N (EH f mo m)):=dJ (HL w slot h y z B b d c C a) λσ H Q q=>by
 obtain⟨A,ι,τ,R,S,q,k⟩:=q
 refine⟨A,ι,τ,_,S,q,λx D i H1 u j p s t=> ?_⟩
 obtain⟨g,j⟩:=j
 refine⟨?_,D,i,τ,_,S.next p s,j,λys E l H2 n F v G v2=> ?_⟩
 .cases x with
  |ref q=>
   obtain⟨_,rfl⟩:=t
   unfold vM at g
   simp only at g
   split at g
   .rename_i kvs I
    obtain⟨n,h1,_⟩:=s.dct I
    exact .inr (.inr (.inl ⟨rfl,.inl ⟨n,h1⟩⟩))
   .cases g
  |_=>cases g
 .exact hd x ys E l H2 _ n R Q G (RV.ext v x u t) v2 F (k.from (p.trans v))
end
noncomputable def kK(kvs more:List (Key×D)):List (Key×D):=more.foldl (λacc p=>b5 acc p.1 p.2) kvs
@[irreducible] def x6(r q:Nat)(A:Ar)(R:DK):Prop:=match A[r]?,A[q]? with
 |some (.dct kvs),some (.dct more)=>r≠q/\kvs.length+more.length<=1000/\R .aG (A.set r (.dct (kK kvs more)))
 |_,_=>False
theorem KJ{A:Ar}{r q:Nat}{kvs a:List (Key×D)}{R:DK}(h1:A[r]?=some (.dct kvs))(h2:A[q]?=some (.dct a))(b:r≠q)(hz:kvs.length+a.length<=1000)(k:R .aG (A.set r (.dct (kK kvs a)))):x6 r q A R:=by
 unfold x6;simp only[h1,h2];exact⟨b,hz,k⟩
noncomputable def B6:mh:=λx vs A R=>match x,vs with
 |.ref r,[.ref q]=>x6 r q A R
 |_,_=>False
theorem ES{mg:aB}{K:Frag}:q_ mg K "dict" Im B6:=by
 intro x ds A ι H u s R Q ra j rs h k;unfold B6 at h;split at h
 .rename_i r q
  obtain⟨e,rfl⟩:=j;obtain⟨_,_,rfl,⟨l,rfl⟩,rfl⟩:=rs;unfold x6 at h;split at h
  .rename_i kvs a f m
   obtain⟨b,hz,h⟩:=h;obtain⟨xs,h1,g⟩:=ra.dct f;obtain⟨ys,h2,i⟩:=ra.dct m;have l1:=RK.length g;have l2:=RK.length i;refine⟨_,_,xs,ys,rfl,rfl,λz=>b (ra.inj r q e l z),h1,h2,ω,?_⟩;have E:=ra.nP (o:=.dK (kJ xs ys)) (c:=.dct (kK kvs a)) e;have n:RK mg ι A.length H (kK kvs a) (kJ xs ys):=RK.fold i g;obtain⟨d,p⟩:=ra.put (c':=.dct (kK kvs a)) (o:=.dK (kJ xs ys)) f h1 rfl ⟨_,fh,by simpa using RK.ext E _ _ n⟩;exact k _ _ ι _ _ h p d rfl
  .exact h.elim
 .exact h.elim
@[irreducible] def vZ(r:Nat)(A:Ar)(R:DK):Prop:=∃(kvs:List (Key×D)) (ns:List Str),(A[r]?=some (.dct kvs)\/∃o,A[r]?=some (.bw o kvs))/\kvs.map (·.1)=ns.map Sum.inr/\ns≠[]/\∀m∈ns,(∀n∈ns,¬n.cps.toList<m.cps.toList)->R (.str m) A
noncomputable def G8:gH:=λvs A R=>match vs with
 |[.ref r]=>vZ r A R
 |_=>False
theorem SJ{A:Ar}{r:Nat}{kvs:List (Key×D)}{ns:List Str}{R:DK}(h:A[r]?=some (.dct kvs)\/∃o,A[r]?=some (.bw o kvs))(b:kvs.map (·.1)=ns.map Sum.inr)(a:ns≠[])(k:∀m∈ns,(∀n∈ns,¬n.cps.toList<m.cps.toList)->R (.str m) A):vZ r A R:=by
 unfold vZ;exact⟨kvs,ns,h,b,a,k⟩
theorem M_{mg:aB}:iy mg (λxs H Q=>∃(d:Addr) (kvs:List (Key×V)) (ns:List Str),xs=[.ref d]/\Rd H d (.dK kvs)/\kvs.map (·.1)=ns.map Sum.inr/\ns≠[]/\∀m∈ns,(∀n∈ns,¬n.cps.toList<m.cps.toList)->Q (.str m) H) G8:=by
 intro ds A ι H i R Q ra rs h k;unfold G8 at h;split at h
 .obtain⟨_,_,rfl,⟨_,rfl⟩,rfl⟩:=rs
  unfold vZ at h;obtain⟨kvs,ns,h1,h2,f,g⟩:=h;rcases h1 with h1|⟨o,h1⟩
  .obtain⟨xs,b,c⟩:=ra.dct h1
   exact⟨_,xs,ns,rfl,.inl b,by rw[RK.pS c];exact h2,f,λm e a=>k.here ra (g m e a) rfl⟩
  .obtain⟨xs,b,c⟩:=ra.bw h1
   exact⟨_,xs,ns,rfl,.inr ⟨o,b⟩,by rw[RK.pS c];exact h2,f,λm e a=>k.here ra (g m e a) rfl⟩
 .exact h.elim
@[irreducible] def vH(neg:Bool)(x:D)(r:Nat)(A:Ar)(R:DK):Prop:=∃(kvs:List (Key×D)) (k:Key),(A[r]?=some (.dct kvs)\/∃o,A[r]?=some (.bw o kvs))/\gc x=some k/\R (.bl (if neg then !(br kvs k).isSome else (br kvs k).isSome)) A
noncomputable def vG(neg:Bool):fk:=λx y A R=>match y with
 |.ref r=>vH neg x r A R
 |_=>False
theorem Gu{neg:Bool}{x:D}{r:Nat}{A:Ar}{R:DK}{kvs:List (Key×D)}{k:Key}(h:A[r]?=some (.dct kvs)\/∃o,A[r]?=some (.bw o kvs))(a:gc x=some k)(q:R (.bl (if neg then !(br kvs k).isSome else (br kvs k).isSome)) A):vH neg x r A R:=by
 unfold vH;exact⟨kvs,k,h,a,q⟩
theorem EK{mg:aB}(neg:Bool):eW mg (s9 neg) (vG neg):=by
 intro x y A ι H u v R Q ra g i h k;unfold vG at h;split at h
 .rename_i f
  obtain⟨_,rfl⟩:=i;unfold vH at h;obtain⟨kvs,b,h1,j,h2⟩:=h;have ex:=nX j g;subst ex;have fin:∀a,RK mg ι A.length H kvs a->Rd H (ι f) (.dK a)->s9 neg (kV b) (.ref (ι f)) H Q:=λa c l=>by
   obtain⟨m,n⟩:=RK.get (k:=b) c;refine⟨_,fB a b,rfl,.inl ⟨a,b,l,rfl,rfl⟩,?_⟩;have p:(fB a b).isSome=(br kvs b).isSome:=by
    cases q:br kvs b with
    |none=>rw[n q];rfl
    |some d=>obtain⟨z,hz,_⟩:=m d q;rw[hz];rfl
   rw[p];exact k.here ra h2 rfl
  rcases h1 with h1|⟨o,h1⟩
  .obtain⟨a,e,c⟩:=ra.dct h1
   exact fin a c (.inl e)
  .obtain⟨a,e,c⟩:=ra.bw h1
   exact fin a c (.inr ⟨o,e⟩)
 .exact h.elim
section
variable{X:Cx}{N:En}{pos:Pos}{a b:Expr}{ma mb:aP}
theorem NT(c:X.A.units+64<cLine)(d:PE X a (up X.mg N ma))(e:PE X b (up X.mg N mb))(f:behindInMarks .In b=false:=by rfl):PE X (.Compare a [.In] [b] pos) (up X.mg N (dO (vG false) ma mb)):=vc (wh c) (EK false) d e f
theorem YE(c:X.A.units+64<cLine)(d:PE X a (up X.mg N ma))(e:PE X b (up X.mg N mb))(f:behindInMarks .In b=false:=by rfl):PT X (.Compare a [.In] [b] pos) (cW X.mg N (g_ (dO (vG false) ma mb))):=lC (wh c) (EK false) d e f
end
noncomputable def EE(m:aP):aP:=λτ A R=>(∃r kvs,A[r]?=some (.dct kvs)/\∀o,m τ (A.set r (.bw o kvs)) λx A2=>BV r o A2 (R x))\/m τ A R
noncomputable def Wd(m:dF):dF:=λR τ A=>(∃r kvs,A[r]?=some (.dct kvs)/\∀o,m {nx:=λbx A2=>BV r o A2 (R.nx bx),rt:=λ_ _=>False} τ (A.set r (.bw o kvs)))\/m R τ A
section
variable{X:Cx}{N:En}{e:Expr}{m:aP}
theorem vd(g:PE X e (up X.mg N m)):PE X e (up X.mg N (EE m)):=by
 intro pins s σ H Q I q;obtain⟨A,ι,τ,R,S,q,k⟩:=q;rcases q with⟨r,kvs,a,q⟩|q
 .obtain⟨xs,h1,h2⟩:=S.ra.dct a
  have n:=(bY.mp a).1;obtain⟨p,o,t⟩:=I.fz h1;obtain⟨w,x⟩:=Ab (o:=o) S a h1 h2;refine aJ (g pins s σ _ (λu H'=>∃xs,H' (ι r)=some (.bT o (.dK xs))/\Q u (upd H' (ι r) (.dK xs))) t ⟨_,ι,τ,_,w,q o,λv A' ι' H' u b h y v2=>?_⟩) λv s' ⟨u,H',z,B,C,h',D⟩=>⟨u,_,z.B4 h' p,B,D⟩;obtain⟨i,c,b⟩:=b;have E:ι' r=ι r:=h.ag r (by simpa using n);obtain⟨d,j,l,f⟩:=Aa y c;rw[E] at j l f;exact⟨d,j,k v _ ι' _ u b ((x.trans h).trans f) l (RV.ext f v u v2)⟩
 .exact g pins s σ H Q I ⟨A,ι,τ,R,S,q,k⟩
theorem NJ{st:Stmt}{ms:dF}(f:PS X st (dj X.mg N ms)):PS X st (dj X.mg N (Wd ms)):=by
 intro pins s σ H Q I q;obtain⟨A,ι,τ,R,S,q,k⟩:=q;rcases q with⟨r,kvs,a,q⟩|q
 .obtain⟨xs,h1,h2⟩:=S.ra.dct a
  have m:=(bY.mp a).1;obtain⟨n,o,p⟩:=I.fz h1;obtain⟨t,v⟩:=Ab (o:=o) S a h1 h2;refine aJ (f pins s σ _ {nx:=λσ' H'=>∃xs,H' (ι r)=some (.bT o (.dK xs))/\Q.nx σ' (upd H' (ι r) (.dK xs)),rt:=λ_ _=>False,bk:=λ_ _=>False,ct:=λ_ _=>False} p ⟨_,ι,τ,_,t,q o,⟨λbx A' ι' σ' H' b g w x=>?_,λ_ _ _ _ _ z=>z.elim,λ_ _ _ _ _ z=>z.elim,λ_ _ _ _ _ z=>z.elim⟩⟩) λfl s' h=>?_
  .obtain⟨i,c,b⟩:=b
   have y:ι' r=ι r:=g.ag r (by simpa using m);obtain⟨d,j,l,e⟩:=Aa w c;rw[y] at j l e;exact⟨d,j,k.nx bx _ ι' σ' _ b ((v.trans g).trans e) l (x.ext e)⟩
  .cases fl with
   |next=>
    obtain⟨σ',H',B,C,h',D⟩:=h;exact⟨σ',_,B.B4 h' n,D⟩
   |brk=>obtain⟨_,_,_,z⟩:=h;exact z.elim
   |cont=>obtain⟨_,_,_,z⟩:=h;exact z.elim
   |ret u=>obtain⟨_,_,_,_,_,z⟩:=h;exact z.elim
 .exact f pins s σ H Q I ⟨A,ι,τ,R,S,q,k⟩
end
end DP
end
namespace L2
theorem bg{N P:List PySem.Str}{sc:PySem.Scope}(kind:sc.kind=.function:=by rfl)(co:sc.isCoroutine=false:=by rfl)(gen:sc.isGenerator=false:=by rfl)(nd:N.Nodup:=by decide+kernel)(pre:N.take P.length=P:=by rfl)
 (par:∀x∈P,sc.names.lookup x=some .local\/sc.names.lookup x=some .cell:=by decide+kernel)(AU:∀y∈sc.names,y.2≠ .free:=by decide+kernel):aW N P sc:=⟨kind,co,gen,nd,pre,par,AU⟩
end L2
section
open PySem PySem.Spec PyProof.Rows
namespace DP
open L2
section
variable{X:Cx}{N:En}{pos pos':Pos}{e a b:Expr}{m ma mb:aP}{x:Str}(i:Nat)
theorem dS(a:X.N.Nodup)(b:PE X e (up X.mg N m))(hi:X.N[i]?=some x:=by rfl)(c:Loc X.env.scope x:=by first|exact .inl rfl|exact .inr rfl)(d:swapsWith e (some (.Name x pos')) pos.line X.env=pure false:=by rfl)(f:X.fn x=true\/X.env.scope.names.lookup x=some .local:=by first|exact .inl rfl|exact .inr rfl|assumption):
 PS X (.Assign [.Name x pos'] e pos) (dj X.mg N (tE i m)):=NL a hi c b d f
theorem dG(a:X.N.Nodup)(hi:X.N[i]?=some x:=by rfl)(b:Loc X.env.scope x:=by first|exact .inl rfl|exact .inr rfl)(c:X.fn x=true\/X.env.scope.names.lookup x=some .local:=by first|exact .inl rfl|exact .inr rfl|assumption):PG X (.Name x pos) (tU X.mg N (gN i)):=Nu a hi b c
theorem pG(a:X.N.Nodup)(hi:X.N[i]?=some x:=by rfl)(b:Loc X.env.scope x:=by first|exact .inl rfl|exact .inr rfl)(c:X.fn x=true\/X.env.scope.names.lookup x=some .local:=by first|exact .inl rfl|exact .inr rfl|assumption):PG X (.Name x pos) (pT i):=HP a hi b c
end
section
variable{X:Cx}{N:En}{pos p:Pos}{e a b:Expr}{ma mb:aP}{x:Str}{es:List Expr}{k r n:Nat}{ps:List Str}{S:Ct}{RE:DX}{m:dw}
theorem dX(c:X.A.units+64<cLine)(d:PE X a (up X.mg N ma))(e:PE X b (up X.mg N mb))(f:yZ b:=by exact λ_ _=>rfl):PE X (.Subscript a b pos) (up X.mg N (dO sr ma mb)):=Ni c d e f
theorem dL(F:aj X.prog X.w X.K X.mg X.base k x ps (ak X.mg n S))(c:dW r X.A)(d:Passes (bV X.prog X.w) X (EL X.mg N RE))(f:PA X (e::es) (fO X.mg N m))(g:k<=r:=by omega)(h:Gl X x:=by rfl)(a:(x==("__debug__":Str))=false:=by decide)
 (i:starEach (e::es) X.env=(false,eval e X.env)::starEach es X.env:=by rfl)(b:(backTo pos (starEach es X.env)).any (·.1)=false:=by rfl):
 PE X (.Call (.Name x p) (e::es) [] pos) (up X.mg N (zK n S RE m)):=Nf F (c.mono g) d f h a i b
end
theorem bF{P:Program}{w:World}{K:Frag}{mg:aB}{base:Heap}{x:Str}{st:Stmt}{Nm ps:List Str}{k n:Nat}{S:Ct}(T:TopD K mg x st ps)(Sc:aW Nm ps (aI st))
  (b:∀{N:En} {RE:DX} {f:Addr} {a:Value} {B:Around} {outer:List Env} {s:Shared} {H:Hp} {E:XK},dW k (cZ (bV P w) P w K mg base Nm x (aI st) f a B outer s H E).A->
   Raises (cZ (bV P w) P w K mg base Nm x (aI st) f a B outer s H E) (EL mg N RE)->Passes (bV P w) (cZ (bV P w) P w K mg base Nm x (aI st) f a B outer s H E) (EL mg N RE)->
   (cZ (bV P w) P w K mg base Nm x (aI st) f a B outer s H E).A.units+64<cLine->Nm.Nodup->
   ∃m,dU (cZ (bV P w) P w K mg base Nm x (aI st) f a B outer s H E) (iD st) (dj mg N m)/\∀ds A R,S ds A R RE->ds.length=n->m {nx:=λ_ A'=>R .aG A',rt:=R} (lO (Nm.length - n) ds) A)(d:ps.length=n:=by rfl)(e:ps.length<=Nm.length:=by decide):aj P w K mg base (k+1) x ps (ak mg n S):=
 jQ T Sc d e λN RE f a B outer s H E c g i ds A R h j=>by
  obtain⟨m,h1,h2⟩:=b c g i c.units Sc.nd;exact⟨m,h1,h2 ds A R h j⟩
@[irreducible] def sE(r:Nat)(y v:D)(A:Ar)(R:Ar->Prop):Prop:=match A[r]?,y with
 |some (.lst xs),.int i=>∃j,iX xs.length i=some j/\R (A.set r (.lst (xs.set j v)))
 |_,_=>False
noncomputable def Wj(mo mi mv:aP):dF:=λR τ A=>mv τ A λv A1=>mo τ A1 λx A2=>mi τ A2 λy A3=>match x with
 |.ref r=>sE r y v A3 λA4=>R.nx τ A4
 |_=>False
theorem NK{X:Cx}{N:En}{pos pos':Pos}{o i value:Expr}{mo C mv:aP}(G:PE X o (up X.mg N mo))(hi:PE X i (up X.mg N C))(I:PE X value (up X.mg N mv))
  (J:swapsWithSole [.Subscript o i pos'] value pos.line X.env=pure false:=by rfl)(K:swappedStores [.Subscript o i pos'] value X.env=pure none:=by rfl)
  (h1:(assignEach [.Subscript o i pos'] X.env).map (·.2)=[assign (.Subscript o i pos') X.env]:=by rfl)
  (L:∀v,assign (.Subscript o i pos') X.env v=(do
   let b <-holding [v] (eval o X.env)
   let l <-holding [v,b] (eval i X.env)
   standAt pos'
   holding [v,b,l] (setItem b l v)
   release [v,b,l] []):=by intro _;rfl):
  PS X (.Assign [.Subscript o i pos'] value pos) (dj X.mg N (Wj mo C mv)):=iT (Vm I (UX G hi set_list L) J K h1) λQ σ H q=>by
 obtain⟨A,ι,τ,R,S,q,k⟩:=q
 refine⟨A,ι,τ,_,S,q,λv M m H1 w O d n P=> ?_⟩
 refine⟨M,m,τ,_,S.next d n,O,λx T p H2 u U f D v2=> ?_⟩
 refine⟨T,p,τ,_,(S.next d n).next f D,U,λy V W H3 z a g h Y=> ?_⟩
 have s:=RV.ext (f.trans g) v w P
 have t:=RV.ext g x u v2
 cases x with
 |ref r=>
  obtain⟨_,rfl⟩:=t
  have a:sE r y v V (λZ=>R.nx τ Z):=a
  unfold sE at a
  split at a
  .rename_i xs i e _
   obtain⟨B,h1,h2⟩:=h.lst e
   obtain⟨j,hj,a⟩:=a
   cases Y
   refine⟨_,B,i,j,rfl,rfl,h1,by rw[<-au.length h2];exact hj,?_⟩
   have hl:=(bY.mp e).1
   have E:=h.nP (o:= .lst (B.set j w)) (c:= .lst (xs.set j v)) hl
   obtain⟨r4,F⟩:=h.put (c':= .lst (xs.set j v)) (o:= .lst (B.set j w)) e h1 rfl ⟨_,fh,by simpa using au.ext E _ _ (h2.set j s)⟩
   exact(k.nx.from (((d.trans f).trans g).trans F)).here ((((S.next d n).next f D).next g h).next F r4) a
  .exact a.elim
 |_=>exact a.elim
theorem Sq{A:Ar}{r j:Nat}{i:Int}{xs:List D}{v:D}{R:Ar->Prop}(h:A[r]?=some (.lst xs))(a:iX xs.length i=some j)(k:R (A.set r (.lst (xs.set j v)))):sE r (.int i) v A R:=by
 unfold sE;rw[h];exact⟨j,a,k⟩
open MA
structure mq(x:Rat):Prop where
 pos:0<x
 num:(rf x).1<=1152921504606846976
 den:(rf x).2<=1152921504606846976
theorem iN.w{x:Rat}(h:iN x):mq x:=⟨h.pos,by have:=h.num;omega,by have:=h.den;omega⟩
theorem L5{xs:List Rat}(h:∀x∈xs,mq x)(a:xs.length<=32):bot xs 1<=1152921504606846976 ^ 32:=by
 have:=bot_le 1152921504606846976 δ xs 1 δ λx b=>(h x b).den;rw[one_mul] at this;exact eB this (HS (c:=1152921504606846976) δ a)
theorem KI{xs:List Rat}(h:∀x∈xs,mq x)(c:xs.length<=32){n:Int}(d:n∈ups xs):0<n/\n<=1152921504606846976 ^ 33:=by
 obtain⟨x,a,rfl⟩:=aM.mp d;have f:=h x a;refine⟨B_ a f.pos,?_⟩;have e:=L5 h c;obtain⟨b,_,_⟩:=pH xs 1 δ;have h1:bot xs 1/(rf x).2<=bot xs 1:=j8 _ (dR b);have h0:0<=bot xs 1/(rf x).2:=Int.ediv_nonneg (dR b) (dR (cR x));have g:=d8 f.pos;rw[show(33:Nat)=32+1 from rfl,jB,nj _ (1152921504606846976:Int)];exact dQ f.num (eB h1 e) h0 δ
theorem AJ{n:Int}(h0:0<n)(h:n<=1152921504606846976 ^ 33):n.natAbs.log2<9000:=
 G0 (Nat.lt_of_le_of_lt (Hh (c:=1152921504606846976) h0 h) η)
theorem J'{n:Int}(h:n<=1152921504606846976):n<=1152921504606846976 ^ 33:=eB h η
end DP
variable{P:Program}{w:World}{K:Frag}{mg:aB}{base:Heap}
namespace My
open L2 DP
noncomputable def top(i:Nat):Stmt:=PySem.Challenge.pw_hangstill_k40_whole_again_and_kept.main.body.getD i (.Pass ⟨0,0,0,0⟩)
abbrev Jw:Stmt:=top 12
abbrev qa:List Str:=["thing","first","last"]
theorem W2:aW ["thing","first","last"] qa (aI Jw):=bg
abbrev Ju:Stmt:=top 13
abbrev sU:List Str:=["thing"]
theorem WZ:aW ["thing"] sU (aI Ju):=bg
abbrev Jt:Stmt:=top 14
abbrev wX:List Str:=["thing","rods"]
theorem WY:aW ["thing","rods"] wX (aI Jt):=bg
abbrev Js:Stmt:=top 15
abbrev sS:List Str:=["thing"]
theorem WX:aW ["thing"] sS (aI Js):=bg
abbrev Je:Stmt:=top 16
abbrev mY:List Str:=["thing"]
theorem WK:aW ["thing"] mY (aI Je):=bg
abbrev Jv:Stmt:=top 17
abbrev wY:List Str:=["thing"]
theorem W0:aW ["thing"] wY (aI Jv):=bg
abbrev Jx:Stmt:=top 18
abbrev wZ:List Str:=["thing"]
theorem W3:aW ["thing","names"] wZ (aI Jx):=bg
abbrev Jc:Stmt:=top 19
abbrev sN:List Str:=["thing"]
theorem WI:aW ["thing"] sN (aI Jc):=bg
abbrev Ji:Stmt:=top 20
abbrev sO:List Str:=["mobile","weights"]
theorem WO:aW ["mobile","weights","numbers","way","name"] sO (aI Ji):=bg
abbrev JC:Stmt:=top 21
abbrev qb:List Str:=["mobile","way"]
theorem W8:aW ["mobile","way"] qb (aI JC):=bg
abbrev JD:Stmt:=top 22
abbrev xj:List Str:=["mobile","numbers"]
theorem W9:aW ["mobile","numbers"] xj (aI JD):=bg
abbrev JI:Stmt:=top 23
abbrev xr:List Str:=["rod","numbers"]
theorem Xd:aW ["rod","numbers"] xr (aI JI):=bg
abbrev JR:Stmt:=top 24
abbrev xB:List Str:=["mobile","way","numbers"]
theorem JZ:aW ["mobile","way","numbers","both","told"] xB (aI JR):=bg
abbrev JB:Stmt:=top 25
abbrev xh:List Str:=["mobile"]
theorem W7:aW ["mobile"] xh (aI JB):=bg
abbrev JQ:Stmt:=top 26
abbrev xA:List Str:=["mobile","weights"]
theorem Xk:aW ["mobile","weights"] xA (aI JQ):=bg
abbrev Jo:Stmt:=top 28
abbrev sQ:List Str:=["one","other"]
theorem WU:aW ["one","other","rest"] sQ (aI Jo):=bg
abbrev JK:Stmt:=top 29
abbrev sV:List Str:=["top","bottom"]
theorem Xf:aW ["top","bottom","divisor"] sV (aI JK):=bg
abbrev JH:Stmt:=top 30
abbrev ow:List Str:=["one","other"]
theorem Xc:aW ["one","other"] ow (aI JH):=bg
abbrev JJ:Stmt:=top 31
abbrev qc:List Str:=["one","other"]
theorem Xe:aW ["one","other"] qc (aI JJ):=bg
abbrev JA:Stmt:=top 32
abbrev xg:List Str:=["fractions"]
theorem W6:aW ["fractions","bottom","fraction","numbers","divisor","number"] xg (aI JA):=bg
abbrev JO:Stmt:=top 34
abbrev xx:List Str:=["mobile","way","share"]
theorem JY:aW ["mobile","way","share","both","left","right"] xx (aI JO):=bg
abbrev Bx:Stmt:=top 35
abbrev mZ:List Str:=["mobile"]
theorem JX:aW ["mobile"] mZ (aI Bx):=bg
abbrev Jz:Stmt:=top 36
abbrev w_:List Str:=["fractions"]
theorem W5:aW ["fractions","names"] w_ (aI Jz):=bg
abbrev JN:Stmt:=top 37
abbrev oz:List Str:=["mobile"]
theorem Xi:aW ["mobile"] oz (aI JN):=bg
abbrev Ja:Stmt:=top 38
abbrev ou:List Str:=["mobile"]
theorem WG:aW ["mobile","first","way","name","share"] ou (aI Ja):=bg
abbrev Jy:Stmt:=top 39
abbrev w9:List Str:=["mobile"]
theorem W4:aW ["mobile"] w9 (aI Jy):=bg
abbrev Jd:Stmt:=top 42
abbrev wM:List Str:=["thing"]
theorem WJ:aW ["thing","mobile"] wM (aI Jd):=bg
abbrev Jr:Stmt:=top 43
abbrev sR:List Str:=["hall"]
theorem WW:aW ["hall"] sR (aI Jr):=bg
abbrev JP:Stmt:=top 44
abbrev xy:List Str:=["by_place","name"]
theorem Xj:aW ["by_place","name","steps","place","table"] xy (aI JP):=bg
abbrev JG:Stmt:=top 45
abbrev xq:List Str:=["by_place","start"]
theorem Xb:aW ["by_place","start","paths","reached","at","step"] xq (aI JG):=bg
abbrev Jq:Stmt:=top 46
abbrev p_:List Str:=["by_place"]
theorem JV:aW ["by_place","told","seen","table","name","paths"] p_ (aI Jq):=bg
abbrev I_:Stmt:=top 47
abbrev wK:List Str:=["steps"]
theorem WE:aW ["steps"] wK (aI I_):=bg
abbrev Jl:Stmt:=top 48
abbrev sP:List Str:=["by_place","steps"]
theorem WS:aW ["by_place","steps","ratio","place","one","other"] sP (aI Jl):=bg
abbrev Jk:Stmt:=top 49
abbrev wU:List Str:=["by_place"]
theorem WR:aW ["by_place","steps","place","table","first"] wU (aI Jk):=bg
abbrev Jm:Stmt:=top 50
abbrev wV:List Str:=["by_place"]
theorem WT:aW ["by_place","paths","group","step","steps"] wV (aI Jm):=bg
abbrev Jf:Stmt:=top 51
abbrev wN:List Str:=["by_place"]
theorem WL:aW ["by_place"] wN (aI Jf):=bg
abbrev Jp:Stmt:=top 52
abbrev wW:List Str:=["by_place","paths"]
theorem WV:aW ["by_place","paths"] wW (aI Jp):=bg
abbrev Jh:Stmt:=top 53
abbrev wQ:List Str:=["by_place","told"]
theorem WN:aW ["by_place","told","name","number"] wQ (aI Jh):=bg
abbrev JM:Stmt:=top 54
abbrev xw:List Str:=["weights","told"]
theorem Xh:aW ["weights","told","scale","name","number"] xw (aI JM):=bg
abbrev JL:Stmt:=top 55
abbrev xu:List Str:=["hall","told"]
theorem Xg:aW ["hall","told","by_place","answer","paths","known"] xu (aI JL):=bg
abbrev Jb:Stmt:=top 57
abbrev wL:List Str:=["hall"]
theorem WH:aW ["hall"] wL (aI Jb):=bg
abbrev Jg:Stmt:=top 60
abbrev wO:List Str:=["thing"]
theorem WM:aW ["thing"] wO (aI Jg):=bg
abbrev JS:Stmt:=top 61
abbrev xC:List Str:=["fractions","numbers"]
theorem Xl:aW ["fractions","numbers"] xC (aI JS):=bg
abbrev JE:Stmt:=top 62
abbrev xm:List Str:=["name","fractions","loads"]
theorem W_:aW ["name","fractions","loads","others","number"] xm (aI JE):=bg
abbrev Jj:Stmt:=top 63
abbrev wR:List Str:=["mobile","numbers"]
theorem WQ:aW ["mobile","numbers","weights","told","number","times","chosen"] wR (aI Jj):=bg
abbrev JF:Stmt:=top 64
abbrev xo:List Str:=["mobile","weights"]
theorem Xa:aW ["mobile","weights","numbers","fractions","loads","told","name","number"] xo (aI JF):=bg
abbrev IL:Stmt:=top 66
abbrev wz:List Str:=["_law_script","_law_k"]
theorem Wq:aW ["_law_script","_law_k"] wz (aI IL):=bg
abbrev IV:Stmt:=top 67
abbrev wF:List Str:=["_law_script","_law_k","_law_many"]
theorem Ww:aW ["_law_script","_law_k","_law_many","_law_drawn"] wF (aI IV):=bg
abbrev IM:Stmt:=top 68
abbrev kO:List Str:=["_law_script","_law_town","_law_many"]
theorem Wr:aW ["_law_script","_law_town","_law_many"] kO (aI IM):=bg
abbrev IZ:Stmt:=top 69
abbrev mX:List Str:=["_law_script","_law_town","_law_some_here"]
theorem WA:aW ["_law_script","_law_town","_law_some_here"] mX (aI IZ):=bg
abbrev IW:Stmt:=top 70
abbrev wG:List Str:=["_law_script","_law_town","_law_names_here","_law_deep"]
theorem JU:aW ["_law_script","_law_town","_law_names_here","_law_deep","_law_most","_law_left","_law_right","_law_one"] wG (aI IW):=bg
abbrev IQ:Stmt:=top 71
abbrev wB:List Str:=["_law_part","_law_row"]
theorem JT:aW ["_law_part","_law_row","_law_one"] wB (aI IQ):=bg
abbrev I0:Stmt:=top 72
abbrev wJ:List Str:=["_law_script","_law_town","_law_deep"]
theorem WB:aW ["_law_script","_law_town","_law_deep","_law_part"] wJ (aI I0):=bg
abbrev IU:Stmt:=top 74
abbrev sJ:List Str:=["_law_part"]
theorem Wv:aW ["_law_part"] sJ (aI IU):=bg
abbrev IX:Stmt:=top 75
abbrev wH:List Str:=["_law_part"]
theorem Wx:aW ["_law_part"] wH (aI IX):=bg
abbrev I9:Stmt:=top 76
abbrev sM:List Str:=["_law_script","_law_town","_law_names_here"]
theorem WD:aW ["_law_script","_law_town","_law_names_here","_law_wide"] sM (aI I9):=bg
abbrev IS:Stmt:=top 79
abbrev wC:List Str:=["_law_script","_law_town"]
theorem Wt:aW ["_law_script","_law_town","_law_way","_law_many","_law_names_here","_law_book","_law_made","_law_k","_law_one","_law_other","_law_left","_law_right"] wC (aI IS):=bg
abbrev IY:Stmt:=top 80
abbrev wI:List Str:=["_law_script","_law_town"]
theorem Wz:aW ["_law_script","_law_town","_law_wide"] wI (aI IY):=bg
abbrev I8:Stmt:=top 81
abbrev sL:List Str:=["_law_hall_here"]
theorem WC:aW ["_law_hall_here"] sL (aI I8):=bg
abbrev IT:Stmt:=top 82
abbrev wD:List Str:=["_law_hall_here","_law_start"]
theorem Wu:aW ["_law_hall_here","_law_start","_law_known_here","_law_changed","_law_one","_law_other","_law_up","_law_down"] wD (aI IT):=bg
abbrev IP:Stmt:=top 83
abbrev wA:List Str:=["_law_hall_here"]
theorem Ws:aW ["_law_hall_here","_law_start","_law_more","_law_first","_law_second","_law_known_here","_law_one","_law_other","_law_up","_law_down","_law_mine","_law_its"] wA (aI IP):=bg
abbrev IJ:Stmt:=top 84
abbrev wo:List Str:=["_law_hall_here"]
theorem Wn:aW ["_law_hall_here","_law_names_here","_law_part"] wo (aI IJ):=bg
abbrev IK:Stmt:=top 85
abbrev wu:List Str:=["_law_what","_law_mobile_here","_law_hall_here","_law_numbers_here","_law_weights_here"]
theorem Wo:aW ["_law_what","_law_mobile_here","_law_hall_here","_law_numbers_here","_law_weights_here"] wu (aI IK):=bg
abbrev lK:Stmt:=top 86
abbrev AX:List Str:=["_law_script"]
theorem JW:aW ["_law_script","_law_town","_law_begin","_law_hall_here","_law_mobile_here","_law_numbers_here","_law_weights_here","_law_k","_law_what","_law_made","_law_copy","_law_anew","_law_told"] AX (aI lK):=bg
open MA
theorem OQ(T:TopD K mg "is_number" Jw qa)(d:mg "isinstance"=none)(f:mg "bool"=none)(g:mg "int"=none):aj P w K mg base 1 "is_number" qa (ak mg 3 uL):=by
 refine bF T W2 λj k l m nd=>⟨_,(av (bJ (PW.pt (gO (e_ (kr RQ d f boot_bool (vr 0))) (iE (fF (e_ (kr RT d g boot_int (vr 0))))))) (ay (aN ic)) bM)
  (ay (aN (Fq (vr 1) (vr 0) (vr 2))))),λds A R h n=>?_⟩
 obtain⟨v,⟨i,a,b,rfl,rfl⟩,q⟩:=h;refine cD (λc=>?_) (λc=>?_)
 .have e:(decide (a<=i)&&decide (i<=b))=decide (i<=b):=by simp[c]
  rw[e] at q;exact q _ Gr.refl
 .have e:(decide (a<=i)&&decide (i<=b))=false:=by simp[c]
  rw[e] at q;exact q _ Gr.refl
theorem HC{c d:Nat}:([c]:List Nat)<[d]↔c<d:=by simp[List.cons_lt_cons_iff]
theorem Xu:("a":Str).cps.toList=[97]:=η
theorem Xv:("z":Str).cps.toList=[122]:=η
theorem OP(T:TopD K mg "is_name" Ju sU)(b:mg "isinstance"=none)(d:mg "str"=none)(g:mg "len"=none)(i:mg "all"=none){t:Tok}(a:mg "LONGEST_NAME"=some (.int 3 t)):aj P w K mg base 1 "is_name" sU (ak mg 1 zg):=by
 refine bF T WZ λr s k u nd=>⟨_,(av (bJ (PW.pt (gO (fF (e_ (kr GG b d boot_str (vr 0)))) (iE (fF (BS ai (dI iQ ia g jg (aa (vr 0) af)) (lA a)))))) (ay (aN ic)) bM)
  (ay (aN (dI (uV rfl) u0 i boot_all (aa (eY none (own:=["letter"]) (frees:=[]) (ix:=[]) rfl (Ny (vr 0)) (λc=>(pG 0 (show(["letter"]:List Str).Nodup by decide+kernel))) (λc=>(Fq bE (vr 0) bE))) af))))),λds A R h y=>?_⟩
 obtain⟨v,⟨n,rfl,j,rfl⟩,q⟩:=h;have hz:n.length<=sizeLine:=cC j.hi δ;have h1:=j.lo;have z:=j.hi;refine⟨hz,cD (λ_=>?_) (λc=>absurd (show(1:Int)<=(n.length:Nat) by omega) c)⟩;refine cN (λc=>absurd (show((n.length:Nat):Int)<=3 by omega) c) (λ_=>?_);refine iS (f:=λ_=>.bl true) trivial _ _ (λx k=>⟨[x],rfl,λQ l=>?_⟩) ?_ ?_
 .obtain⟨c,hc,rfl⟩:=aM.mp k
  obtain⟨B,C⟩:=j.az c hc;have m:¬((⟨#[c]⟩:Str).cps.toList<("a":Str).cps.toList):=by
   rw[Xu];intro h;have:=HC.mp h;omega
  have o:¬(("z":Str).cps.toList<(⟨#[c]⟩:Str).cps.toList):=by
   rw[Xv];intro h;have:=HC.mp h;omega
  refine cN (λ_=>?_) (λh=>absurd h m);have p:(!decide (("z":Str).cps.toList<(⟨#[c]⟩:Str).cps.toList))=true:=by rw[gu o];rfl
  show Q (.bl (!decide (("z":Str).cps.toList<(⟨#[c]⟩:Str).cps.toList))) A;rw[p];exact l
 .have:(lM n).length=n.length:=by simp[lM,Str.length]
  show 0+(lM n).length<=sizeLine;omega
 .refine uN (bs:=(lM n).map λ_=>true) aE (nJ _ _) ?_
  have e:((lM n).map λ_=>true).all id=true:=θ
  rw[e];exact q _ Gr.push
theorem ON(T:TopD K mg "is_mobile_within" Jt wX)(i:mg "isinstance"=none)(x:mg "str"=none)(u:mg "tuple"=none)(k:mg "len"=none){t:Tok}(g:mg "LONGEST_ARM"=some (.int 9 t))
  (o:aj P w K mg base 1 "is_name" sU (ak mg 1 zg))(j:aj P w K mg base 1 "is_number" qa (ak mg 3 uL)):∀d,aj P w K mg base (d+1) "is_mobile_within" wX (ak mg 2 (Dd d)):=by
 intro d;induction d with
 |zero=>
  refine nR T λds A R RE h=>?_;obtain⟨v,⟨m,_,_,h,_⟩,_⟩:=h;omega
 |succ d e=>
  refine jQ T WY rfl δ λN RE f I B outer s H E y Z z ds A R h hl=>?_;have p:=y.units;refine⟨_,(av (bJ (PW.pt (gO (fF (e_ (kr kit_tuple i u j7 (vr 0)))) (gO (d_ p (dI iQ ia k jg (aa (vr 0) af)) ai) (iE (fF (e_ (kr GG i x boot_str (dX p (vr 0) ai)))))))) (ay (aN ic)) bM)
  (av (bJ (d_ p (dX p (vr 0) ai) bE) (ay (aN (zN (zY p (dI iQ ia k jg (aa (vr 0) af)) ai) (zP (dL o y z (aa (dX p (vr 0) ai) af)))))) bM)
  (av (bJ (PW.pt (gO (jV p (dX p (vr 0) ai) bE) (gO (jV p (dI iQ ia k jg (aa (vr 0) af)) ai) (iE (d_ p (vr 1) ai))))) (ay (aN ic)) bM)
  (av (bJ (PW.pt (gO (fF (e_ (dL j y z (aa (dX p (vr 0) ai) (aa ai (aa (lA g) af)))))) (iE (fF (e_ (dL j y z (aa (dX p (vr 0) ai) (aa ai (aa (lA g) af))))))))) (ay (aN ic)) bM)
  (ay (aN (zN (dL e y z (aa (dX p (vr 0) ai) (aa (rS (vr 1) ai) af))) (zP (dL e y z (aa (dX p (vr 0) ai) (aa (rS (vr 1) ai) af))))))))))),?_⟩
  obtain⟨v,⟨m,rfl,C,hd,rfl⟩,q⟩:=h;cases m with
  |wt n=>
   exact⟨rfl,_,⟨n,rfl,C.nm n (by simp[aX.names]),rfl⟩,q⟩
  |bS l r a b=>
   obtain⟨⟨h1,h2,J,L,M,O⟩,F⟩:=C;have Q:max a.deep b.deep+1<d+1:=hd;have G:((d+1:Nat):Int) - 1 - 1=(d:Int) - 1:=ω
   have S:(decide (1<=l)&&decide (l<=9))=true:=by simp[h1,h2]
   have U:(decide (1<=r)&&decide (r<=9))=true:=by simp[J,L]
   refine cD (λc=>absurd c ω) (λ_=>?_);refine⟨rfl,_,⟨l,1,9,rfl,rfl⟩,λA1 V=>?_⟩;rw[S];refine⟨rfl,_,⟨r,1,9,rfl,rfl⟩,λA2 W=>?_⟩;rw[U];refine⟨rfl,_,⟨a,show [enc a,D.int (((d+1:Nat):Int) - 1 - 1)]=_ by rw[G],⟨M,λn h=>F n (by simp[aX.names,h])⟩,ω,rfl⟩,λA3 X=>?_⟩;refine⟨rfl,_,⟨b,show [enc b,D.int (((d+1:Nat):Int) - 1 - 1)]=_ by rw[G],⟨O,λn h=>F n (by simp[aX.names,h])⟩,ω,rfl⟩,λA4 Y=>?_⟩;exact q _ (((V.trans W).trans X).trans Y)
theorem OO(T:TopD K mg "is_mobile" Js sS){t:Tok}(b:mg "MOST_RODS"=some (.int 5 t))(a:aj P w K mg base 7 "is_mobile_within" wX (ak mg 2 (Dd 6))):aj P w K mg base 8 "is_mobile" sS (ak mg 1 ze):=by
 refine bF T WX λc f d g nd=>⟨_,(ay (aN (dL a c d (aa (vr 0) (aa (lA b) af))))),λds A R h i=>?_⟩;obtain⟨v,⟨m,rfl,e,hd,rfl⟩,q⟩:=h;exact⟨rfl,_,⟨m,rfl,e,ω,rfl⟩,q⟩
theorem Ov(T:TopD K mg "check_mobile" Je mY){a:Addr}(c:mg "NoMobile"=some (.ref a))(d:excIn K a jW "ValueError.__new__"=true)(b:aj P w K mg base 8 "is_mobile" sS (ak mg 1 ze)):aj P w K mg base 9 "check_mobile" mY (ak mg 1 pA):=by
 refine bF T WK λe f g k nd=>⟨_,(ay (bJ (fF (e_ (dL b e g (aa (vr 0) af)))) (ay (jr f rfl c d (aa bE af))) bM)),λds A R h l=>?_⟩;obtain⟨v,⟨m,rfl,i,hd,rfl⟩,q⟩:=h;exact⟨rfl,_,⟨m,rfl,i,hd,rfl⟩,λn j=>q _ j⟩
end My
namespace DP
open L2 MA
abbrev y_:Ct:=SV λds v=>∃rs,ds=[fc rs]/\jm rs/\v=.aG
end DP
namespace My
open L2 DP MA
theorem O5(T:TopD K mg "is_named_number" Jv wY)(a:mg "isinstance"=none)(e:mg "tuple"=none)(f:mg "len"=none){t:Tok}(c:mg "HEAVIEST"=some (.int 999999 t))
  (d:aj P w K mg base 1 "is_name" sU (ak mg 1 zg))(b:aj P w K mg base 1 "is_number" qa (ak mg 3 uL)):aj P w K mg base 2 "is_named_number" wY (ak mg 1 Dt):=by
 refine bF T W0 λi n j g nd=>⟨_,(av (bJ (PW.pt (gO (fF (e_ (kr kit_tuple a e j7 (vr 0)))) (iE (jV g (dI iQ ia f jg (aa (vr 0) af)) ai)))) (ay (aN ic)) bM)
  (ay (aN (zN (dL d i j (aa (dX g (vr 0) ai) af)) (zP (dL b i j (aa (dX g (vr 0) ai) (aa ai (aa (lA c) af))))))))),λds A R h o=>?_⟩
 obtain⟨v,⟨r,rfl,k,⟨h1,h2⟩,rfl⟩,q⟩:=h;refine⟨rfl,_,⟨r.1,rfl,k,rfl⟩,λp l=>?_⟩;refine⟨rfl,_,⟨r.2,1,999999,rfl,rfl⟩,λs m=>?_⟩;rw[show(decide (1<=r.2)&&decide (r.2<=999999))=true by simp[h1,h2]];exact q _ (l.trans m)
theorem pw_eq{ys ss:List Str}(h1:ys.Pairwise strLt)(h2:ss.Pairwise strLt)(b:∀x,x∈ys↔x∈ss):ys=ss:=by
 induction ys generalizing ss with
 |nil=>
  cases ss with
  |nil=>rfl
  |cons a r=>exact absurd ((b a).mpr (aT ..)) θ
 |cons y ys d=>
  cases ss with
  |nil=>exact absurd ((b y).mp (aT ..)) θ
  |cons a r=>
   have p1:=gU.mp h1;have p2:=gU.mp h2;have e:y=a:=by
    have f:=(b y).mp (aT ..);have g:=(b a).mpr (aT ..);rcases aY.mp f with q|q
    .exact q
    rcases aY.mp g with q'|q'
    .exact q'.symm
    exact absurd (ur (p2.1 y q) (p1.1 a q')) (j5 _)
   subst e;rw[d p1.2 p2.2 λx=>?_];constructor
   .intro c
    rcases aY.mp ((b x).mp (bq _ c)) with q|q
    .subst q;exact absurd (p1.1 x c) (j5 _)
    .exact q
   .intro c
    rcases aY.mp ((b x).mpr (bq _ c)) with q|q
    .subst q;exact absurd (p2.1 x c) (j5 _)
    .exact q
theorem OR(T:TopD K mg "is_weights" Jx wZ)(b:mg "isinstance"=none)(g:mg "tuple"=none)(j:mg "all"=none)(d:mg "sorted"=none)(k:mg "set"=none)
  (a:aj P w K mg base 2 "is_named_number" wY (ak mg 1 Dt)):aj P w K mg base 3 "is_weights" wZ (ak mg 1 De):=by
 refine bF T W3 λl G p t nd=>⟨_,(av (bJ (PW.pt (gO (fF (e_ (kr kit_tuple b g j7 (vr 0)))) (iE (fF (e_ (dI (uV rfl) u0 j boot_all (aa (eY none (own:=["pair"]) (frees:=[]) (ix:=[]) rfl (cA (vr 0)) (λc=>(pG 0 (show(["pair"]:List Str).Nodup by decide+kernel))) (λc=>(dL a l m5 (aa (vr 0) af)))) af))))))) (ay (aN ic)) bM)
  (av (Fi none (own:=["pair"]) (frees:=[]) (ix:=[]) (i:=1) nd rfl (by first|exact Or.inl rfl|exact Or.inr rfl) rfl (cA (vr 0)) (λc=>(pG 0 (show(["pair"]:List Str).Nodup by decide+kernel))) (λc=>(dX t (vr 0) ai)))
  (ay (aN (zY t (vr 1) (zR d k rfl (aa (vr 1) af))))))),λds A R h H=>?_⟩
 obtain⟨v,⟨rs,rfl,m,rfl⟩,q⟩:=h;have hz:0+(rs.map bH).length<=sizeLine:=by
  have:=m.len;have:(64:Nat)<=sizeLine:=δ
  simp;omega
 have o:∀n∈rs.map (·.1),Nm n:=λn z=>by
  obtain⟨r,l,rfl⟩:=aM.mp z;exact m.nm r l
 refine pJ (λ_=>.bl true) _ _ _ (λ_ _=>trivial) (λx p B u=>⟨[x],rfl,λQ s=>?_⟩) hz (λB u=>?_)
 .obtain⟨r,l,rfl⟩:=aM.mp p
  exact⟨rfl,_,⟨r,rfl,m.nm r l,m.no r l,rfl⟩,s⟩
 refine uN (bs:=(rs.map bH).map λ_=>true) aE (nJ _ _) ?_;rw[show((rs.map bH).map λ_=>true).all id=true by simp];refine iS (f:=λx=>match x with|.tup (y::_)=>y|x=>x) trivial _ _ (λx p=>⟨[x],rfl,λQ s=>?_⟩) hz ?_
 .obtain⟨r,l,rfl⟩:=aM.mp p
  exact s
 have e:(rs.map bH).map (λx=>match x with|.tup (y::_)=>y|x=>x)=(rs.map (·.1)).map D.str:=by
  rw[bK,bK];rfl
 rw[fC,e];refine BG (ss:=rs.map (·.1)) aE (by have:=strs_map id (rs.map (·.1));simpa using this) (by have:=m.len;simpa using this) λys C E=>?_;have F:=pw_eq C m.up E;subst F;refine Oa (getElem?_push aE) aE o o ?_;rw[eL rfl];exact q _ (((u.trans Gr.push).trans Gr.push).trans Gr.push)
theorem OU(T:TopD K mg "leaves_below" JC qb):∀d,aj P w K mg base (d+1) "leaves_below" qb (ak mg 2 (uK d)):=by
 intro d;induction d with
 |zero=>
  refine nR T λds A R RE h=>?_;obtain⟨v,⟨m,w,_,h,_⟩,_⟩:=h;omega
 |succ d c=>
  refine jQ T W8 rfl δ λN RE f k B outer s H E g t i ds A R h u=>?_;have e:=g.units;refine⟨_,(av (bJ (d_ e (dX e (vr 0) ai) bE) (ay (aN (cE (aa (bW (aa (vr 1) (aa (dX e (vr 0) ai) af))) af)))) bM)
  (ay (aN (c6 (dL c g i (aa (dX e (vr 0) ai) (aa (c6 (vr 1) bE) af))) (dL c g i (aa (dX e (vr 0) ai) (aa (c6 (vr 1) bE) af))))))),?_⟩
  obtain⟨v,⟨m,w,rfl,hd,z,C,rfl⟩,q⟩:=h;have D:(100:Nat)<=sizeLine:=δ
  cases m with
  |wt n=>exact⟨by show 2<=sizeLine;omega,by show 1<=sizeLine;omega,q _ _ Gr.push aE⟩
  |bS l r a b=>
   have o:max a.deep b.deep+1<d+1:=hd;have F:("l":Str).length=1:=η
   have G:("r":Str).length=1:=η
   have al:∀x y:Str,(x++y).length=x.length+y.length:=λx y=>ue;refine⟨ω,rfl,_,⟨a,_,rfl,ω,by rw[al];omega,ω,rfl⟩,λI J p h1=>?_⟩;refine⟨ω,rfl,_,⟨b,_,rfl,ω,by rw[al];omega,ω,rfl⟩,λL M j h2=>?_⟩;have n1:=aX.lJ a;have n2:=aX.lJ b;have p1:2 ^ a.deep<=2 ^ 8:=fj δ ω;have p2:2 ^ b.deep<=2 ^ 8:=fj δ ω;have hz:(512:Nat)<=sizeLine:=δ
   refine iR (j.get h1) h2 (by rw[aK,aK,sG,sG];omega) (q _ _ ((p.trans j).trans Gr.push) ?_);rw[aE];simp[jw]
theorem OW(T:TopD K mg "load_below" JD xj)(b:mg "sum"=none)(a:aj P w K mg base 9 "leaves_below" qb (ak mg 2 (uK 8))):aj P w K mg base 10 "load_below" xj (ak mg 2 (Dh 6)):=by
 refine bF T W9 λk y d l nd=>⟨_,(ay (aN (dI (Mj rfl) Nd b boot_sum (aa (eY (some 2) (own:=["way","name"]) (frees:=["numbers"]) (ix:=[1]) rfl (cA (dL a k d (aa (vr 0) (aa bE af)))) (λc=>(oA rfl (gR (pG 0 (show(["way","name","numbers"]:List Str).Nodup by decide+kernel)) (gR (pG 1 (show(["way","name","numbers"]:List Str).Nodup by decide+kernel)) oB)))) (λc=>(dX l (vr 2) (vr 1)))) af)))),λds A R h z=>?_⟩;obtain⟨m,r,rs,rfl,o,s,hd,i,q⟩:=h;refine⟨rfl,_,⟨m,_,rfl,ω,η,ω,rfl⟩,λB C j h1=>?_⟩;refine d7 h1 ?_;have n1:=aX.lJ m;have p1:2 ^ m.deep<=2 ^ 6:=fj δ hd;have hz:(64:Nat)<=sizeLine:=δ
 refine iS (f:=λx=>match x with|.tup [_,.str n]=>.int (val rs n)|x=>x) h1 _ _ (λx d=>?_) (by simp[sG];omega) ?_
 .obtain⟨p,t,rfl⟩:=aM.mp d
  refine⟨[.str p.1,.str p.2],rfl,λQ u=>?_⟩;have v:p.2∈m.names:=by rw[<-p8 m ""];exact cX t
  exact fm (j.get o) rfl (nS rs p.2 (i _ v)) u
 have e:((jw m "").map kH).map (λx=>match x with|.tup [_,.str n]=>D.int (val rs n)|x=>x)=m.names.map λn=>D.int (val rs n):=by
  rw[<-p8 m "",bK,bK];rfl
 rw[fC,e];refine X6 (ns:=m.names.map (val rs)) aE (ints_map _ _) (λn g=>?_) (by simp;omega) ?_
 .obtain⟨x,d,rfl⟩:=aM.mp g
  have:=Cd s (i x d);omega
 .rw[AB]
  exact q _ (j.trans Gr.push)
theorem Ot(T:TopD K mg "check_are_weights" Jc sN){a:Addr}(c:mg "NoWeights"=some (.ref a))(d:excIn K a jW "ValueError.__new__"=true)
  (b:aj P w K mg base 3 "is_weights" wZ (ak mg 1 De)):aj P w K mg base 4 "check_are_weights" sN (ak mg 1 y_):=by
 refine bF T WI λe f g k nd=>⟨_,(ay (bJ (fF (e_ (dL b e g (aa (vr 0) af)))) (ay (jr f rfl c d (aa bE af))) bM)),λds A R h l=>?_⟩;obtain⟨v,⟨rs,rfl,i,rfl⟩,q⟩:=h;exact⟨rfl,_,⟨rs,rfl,i,rfl⟩,λm j=>q _ j⟩
theorem OD(T:TopD K mg "check_weights" Ji sO)(i:mg "dict"=none){d:Addr}(f:mg "NoWeights"=some (.ref d))(g:excIn K d jW "ValueError.__new__"=true)
  (c:aj P w K mg base 4 "check_are_weights" sN (ak mg 1 y_))(e:aj P w K mg base 9 "leaves_below" qb (ak mg 2 (uK 8))):aj P w K mg base 10 "check_weights" sO (ak mg 2 zb):=by
 refine bF T WO λl s j t nd=>⟨_,(av (c7 (dL c l j (aa (vr 1) af)))
  (av (dS 2 nd (ie (mD rfl) mH i nA (aa (vr 1) af)))
  (ay (eH dM rfl (cA (dL e l j (aa (vr 0) (aa bE af)))) (ku rfl (dB (dG 3 nd) (dB (dG 4 nd) kB))) (ay (bJ (ql t (vr 4) (vr 2)) (ay (jr s rfl f g (aa (Nh (vr 4)) af))) bM)))))),λds A R h F=>?_⟩
 obtain⟨v,⟨m,rs,rfl,n,hd,u,rfl⟩,q⟩:=h;refine⟨rfl,_,⟨rs,rfl,n,rfl⟩,λo y=>?_⟩;refine vg n ?_;refine⟨rfl,_,⟨m,_,rfl,ω,η,ω,rfl⟩,λz G r h2=>?_⟩;refine d7 h2 ?_;have B:z[o.length]?=some (.dct (c_ rs)):=r.get aE;refine Fe h2 (λτ=>∃a b,τ=[some (enc m),some (fc rs),some (.ref o.length),a,b]) _ _ ⟨none,none,rfl⟩ (λx j τ k H C=>?_) (λτ _=>q _ ((y.trans Gr.push).trans r));obtain⟨a,b,rfl⟩:=k;obtain⟨p,D,rfl⟩:=aM.mp j;have E:p.2∈m.names:=by rw[<-p8 m ""];exact cX D
 refine⟨rfl,iG B rfl ?_⟩;rw[nS rs p.2 (u _ E)];exact C _ ⟨_,_,rfl⟩
theorem OH(T:TopD K mg "greatest_divisor" Jo sQ):aj P w K mg base 1 "greatest_divisor" sQ (ak mg 2 zc):=by
 refine bF T WU λp s t u nd=>⟨_,(av (zX dM (BR (vr 1) ai) (av (dS 2 nd (mJ (vr 0) (vr 1)))
  (av (dS 0 nd (vr 1))
  (ay (dS 1 nd (vr 2))))))
  (ay (aN (vr 0)))),λds A R h z=>?_⟩
 obtain⟨v,⟨a,b,rfl,i,j,rfl⟩,q⟩:=h;refine⟨λn τ A'=>A'=A/\∃(x y:Int) (r:Option D),τ=[some (.int x),some (.int y),r]/\0<=x/\0<=y/\Int.gcd x y=Int.gcd a b/\n=y.toNat,⟨_,rfl,a,b,none,rfl,i,j,rfl,rfl⟩,?_⟩;rintro n τ A' ⟨rfl,x,y,r,rfl,h0,h1,g,rfl⟩;refine cD (λc=>?_) (λc=>?_)
 .refine⟨λτ k=>k=A'/\∃(f d:Int) (r:Option D),τ=[some (.int f),some (.int d),r]/\0<=f/\0<=d/\Int.gcd f d=Int.gcd a b/\d.toNat<y.toNat,λbx A' ⟨e,f,d,r',h1,h2,l,m,o⟩=>⟨_,o,e,f,d,r',h1,h2,l,m,rfl⟩,?_⟩
  have m0:=qM x (show y≠0 by omega);have B:=qL x (show 0<y by omega);exact⟨c,rfl,y,x%y,_,rfl,h1,m0,by rw[P4 h0 c];exact g,ω⟩
 .have e:y=0:=ω
  subst e;have:(x:Int)=(Int.gcd a b:Int):=by rw[<-g,Int.gcd_zero_right];omega
  show R (.int x) A';rw[this];exact q _ Gr.refl
theorem Pf(T:TopD K mg "reduced" JK sV)(c:aj P w K mg base 1 "greatest_divisor" sQ (ak mg 2 zc)):aj P w K mg base 2 "reduced" sV (ak mg 2 zk):=by
 refine bF T Xf λf m g o nd=>⟨_,(av (dS 2 nd (dL c f g (aa (vr 0) (aa (vr 1) af))))
  (ay (aN (bW (aa (pK (vr 0) (vr 2)) (aa (pK (vr 1) (vr 2)) af)))))),λds A R h i=>?_⟩
 obtain⟨v,⟨a,b,rfl,j,p,hz,rfl⟩,q⟩:=h;have d:0<(Int.gcd a b:Int):=by
  have:=Int.gcd_pos_of_ne_zero_left b (show a≠0 by omega);omega
 have i:(Int.gcd a b:Int)<=a:=le_of_dvd j (ux a b);have e:(Int.gcd a b:Int).natAbs.log2<9000:=by
  have h1:(Int.gcd a b:Int).natAbs<2 ^ 2000:=ω
  have:=(Nat.log2_lt (n:=(Int.gcd a b:Int).natAbs) (k:=2000) ω).mpr h1;omega
 refine⟨rfl,_,⟨a,b,rfl,ω,ω,rfl⟩,λr l=>?_⟩;exact⟨⟨d,e⟩,⟨d,e⟩,show 2<=sizeLine by decide,q _ l⟩
end My
namespace DP
open L2 MA
noncomputable def fq(x:Rat):D:=.tup [.int (rf x).1,.int (rf x).2]
noncomputable def oE(p:Str×Str×Rat):D:=.tup [.str p.1,.str p.2.1,fq p.2.2]
theorem Br{a b:Int}(c:0<b):rd a b=rf ((a:Rat)/(b:Rat)):=xJ c
def kj:Ct:=λds A R _=>∃a b c d:Int,ds=[.tup [.int a,.int b],.tup [.int c,.int d]]/\0<a/\0<b/\0<c/\0<d/\c<2 ^ 64/\d<2 ^ 64/\a*c<2 ^ 2000/\∀A',Gr A A'->R (fq (((a:Rat)/(b:Rat))*((c:Rat)/(d:Rat)))) A'
theorem mul_div{a b c d:Int}(e:0<b)(hd:0<d):((a*c:Int):Rat)/((b*d:Int):Rat)=((a:Rat)/(b:Rat))*((c:Rat)/(d:Rat)):=by
 have h1:=iB (kW e);have h2:=iB (kW hd);rw[j6,j6];grind
def DE(d:Nat):Ct:=λds A R _=>∃m w x,ds=[enc m,.str w,fq x]/\m.arms/\m.deep<d/\d<=6/\w.length+d<=100/\0<x/\(rf x).1*18 ^ m.deep<=1000000000/\∀A' q,Gr A A'->A'[q]?=some (.lst ((bC m w x).map oE))->A.length<=q->R (.ref q) A'
def rm:Ct:=λds A R _=>∃m,ds=[enc m]/\Wf m/\m.deep<=5/\∀A' q,Gr A A'->A'[q]?=some (.lst ((bC m "" 1).map oE))->A.length<=q->R (.ref q) A'
theorem D7{a:Int}(h:a<=1000000000000):a<2 ^ 2000:=qw h (yx (show(1000000000000:Int)<2 ^ 64 by decide) (by
 have:(2:Nat) ^ 64<=2 ^ 2000:=fj δ δ;exact_mod_cast this))
end DP
namespace My
open L2 DP MA
theorem Pb(T:TopD K mg "product" JH ow)(e:aj P w K mg base 2 "reduced" sV (ak mg 2 zk)):aj P w K mg base 3 "product" ow (ak mg 2 kj):=by
 refine bF T Xc λj s k f nd=>⟨_,(ay (aN (dL e j k (aa (eZ (dX f (vr 0) ai) (dX f (vr 1) ai)) (aa (eZ (dX f (vr 0) ai) (dX f (vr 1) ai)) af))))),λds A R h t=>?_⟩;obtain⟨a,b,c,d,rfl,h1,h2,l,i,m,n,o,q⟩:=h;refine⟨.inr ⟨ω,m⟩,.inr ⟨ω,n⟩,rfl,_,⟨_,_,rfl,f_ h1 l,f_ h2 i,o,rfl⟩,λp r=>?_⟩;have g:=q p r;rw[<-mul_div h2 i] at g;unfold fq at g;rw[<-Br (f_ h2 i)] at g;exact g
theorem Pe(T:TopD K mg "quotient" JJ qc)(f:aj P w K mg base 2 "reduced" sV (ak mg 2 zk)):aj P w K mg base 3 "quotient" qc (ak mg 2 (λds A R E=>∃a b c d:Int,ds=[.tup [.int a,.int b],.tup [.int c,.int d]]/\kj [.tup [.int a,.int b],.tup [.int d,.int c]] A R E)):=by
 refine bF T Xe λk t l g nd=>⟨_,(ay (aN (dL f k l (aa (eZ (dX g (vr 0) ai) (dX g (vr 1) ai)) (aa (eZ (dX g (vr 0) ai) (dX g (vr 1) ai)) af))))),λds A R h u=>?_⟩;obtain⟨a,b,c,d,rfl,v,x,d',c',e,h1,h2,m,j,n,o,p,q⟩:=h;cases e;refine⟨.inr ⟨ω,n⟩,.inr ⟨ω,o⟩,rfl,_,⟨_,_,rfl,f_ h1 m,f_ h2 j,p,rfl⟩,λr s=>?_⟩;have i:=q r s;rw[<-mul_div h2 j] at i;unfold fq at i;rw[<-Br (f_ h2 j)] at i;exact i
theorem Po(T:TopD K mg "shares_below" JO xx)(e:aj P w K mg base 3 "product" ow (ak mg 2 kj)):∀d,aj P w K mg base (d+3) "shares_below" xx (ak mg 3 (DE d)):=by
 intro d;induction d with
 |zero=>
  refine nR T λds A R RE h=>?_;obtain⟨m,w,x,_,_,h,_⟩:=h;omega
 |succ d c=>
  refine jQ T JY rfl δ λN RE f D B outer s H E j U k ds A R h V=>?_;have g:=j.units;have nd:=JY.nd;refine⟨_,(av (bJ (d_ g (dX g (vr 0) ai) bE) (ay (aN (cE (aa (bW (aa (vr 1) (aa (dX g (vr 0) ai) (aa (vr 2) af)))) af)))) bM)
  (av (dS 3 nd (c6 (dX g (vr 0) ai) (dX g (vr 0) ai)))
  (av (dS 4 nd (dL e j k (aa (vr 2) (aa (bW (aa (dX g (vr 0) ai) (aa (vr 3) af))) af))))
  (av (dS 5 nd (dL e j k (aa (vr 2) (aa (bW (aa (dX g (vr 0) ai) (aa (vr 3) af))) af))))
  (ay (aN (c6 (dL c j k (aa (dX g (vr 0) ai) (aa (c6 (vr 1) bE) (aa (vr 4) af)))) (dL c j k (aa (dX g (vr 0) ai) (aa (c6 (vr 1) bE) (aa (vr 5) af))))))))))),?_⟩
  obtain⟨m,w,x,rfl,F,hd,W,X,i,o,q⟩:=h;have Y:(1000:Nat)<=sizeLine:=δ
  cases m with
  |wt n=>exact⟨show 3<=sizeLine by decide,show 1<=sizeLine by decide,q _ _ Gr.push aE (aF _)⟩
  |bS l r a b=>
   have G:max a.deep b.deep+1<d+1:=hd;obtain⟨u,Z,v,r4,p,t⟩:=F;have ll:("l":Str).length=1:=η
   have lr:("r":Str).length=1:=η
   have al:∀x y:Str,(x++y).length=x.length+y.length:=λx y=>ue;have np:=d8 i;have dp:=cR x;have o:(rf x).1*18 ^ (max a.deep b.deep+1)<=1000000000:=o;have n1:(rf (x*((r:Rat)/((l+r:Int):Rat)))).1<=(rf x).1*18:=eB (num_mul ω (mul_nonneg ω ω)) (qJ ω ω);have n2:(rf (x*((l:Rat)/((l+r:Int):Rat)))).1<=(rf x).1*18:=eB (num_mul ω (mul_nonneg ω ω)) (qJ ω ω);obtain⟨k1,_,k0⟩:=E5 o n1 np;obtain⟨_,k2,_⟩:=E5 o n2 np;have p1:0<x*((r:Rat)/((l+r:Int):Rat)):=aX.step_pos u v i;have p2:0<x*((l:Rat)/((l+r:Int):Rat)):=by
    have:=aX.step_pos (l:=r) (r:=l) v u i;rwa [add_comm r l] at this
   have m1:(rf x).1*r<=1000000000*18:=dQ k0 ω ω ω;have m2:(rf x).1*l<=1000000000*18:=dQ k0 ω ω ω;have I:(18:Int)<2 ^ 64:=δ
   refine⟨show 2<=sizeLine by decide,rfl,_,_,_,_,rfl,np,dp,ω,ω,ω,ω,D7 ω,λA1 J=>?_⟩;refine⟨show 2<=sizeLine by decide,rfl,_,_,_,_,rfl,np,dp,ω,ω,ω,ω,D7 ω,λA2 L=>?_⟩;rw[gh];refine⟨ω,rfl,a,_,_,rfl,p,ω,ω,by rw[al];omega,p1,k1,λA3 q3 M O _=>?_⟩;refine⟨ω,rfl,b,_,_,rfl,t,ω,ω,by rw[al];omega,p2,k2,λQ q4 z S _=>?_⟩;have z1:=iZ (m:=a) ω;have z2:=iZ (m:=b) ω;have C:Gr A Q:=((J.trans L).trans M).trans z;refine iR (z.get O) S (by simp[m7];omega) (q _ _ (C.trans Gr.push) ?_ C.len);rw[aE];simp[bC]
theorem Pn(T:TopD K mg "shares" JN oz)(a:aj P w K mg base 9 "check_mobile" mY (ak mg 1 pA))(b:aj P w K mg base 9 "shares_below" xx (ak mg 3 (DE 6))):aj P w K mg base 10 "shares" oz (ak mg 1 rm):=by
 refine bF T Xi λc j d k nd=>⟨_,(av (c7 (dL a c d (aa (vr 0) af)))
  (ay (aN (dL b c d (aa (vr 0) (aa bE (aa (bW (aa ai (aa ai af))) af))))))),λds A R h l=>?_⟩
 obtain⟨m,rfl,f,hd,q⟩:=h;refine⟨rfl,_,⟨m,rfl,f,hd,rfl⟩,λn g=>?_⟩;have o:(D.tup [.int 1,.int 1])=fq 1:=rfl;refine⟨show 2<=sizeLine by decide,rfl,m,_,1,rfl,f.arms,ω,ω,η,δ,?_,λr s i h2 l2=>q _ _ (g.trans i) h2 (cC g.len l2)⟩;have p:=sY hd;have e:(18:Int) ^ 5=1889568:=δ
 rw[e] at p;show(1:Int)*18 ^ m.deep<=1000000000;omega
end My
namespace DP
open L2 MA
noncomputable def bD:Option (Str×Str)->D
 |some p=>.tup [.str p.1,.str p.2]
 |none=>.aG
def rj:Ct:=λds A R _=>∃m,ds=[enc m]/\Wf m/\m.deep<=5/\∀A',Gr A A'->R (bD (cP [] (bC m "" 1))) A'
theorem pU(k:Key)(v:D)(c:Key):∀kvs:List (Key×D),br (b5 kvs k v) c=if k=c then some v else br kvs c:=by
 intro kvs;by_cases f:(kvs.any λb=>decide (b.1=k))=true
 .have e:b5 kvs k v=kvs.map λb=>if b.1=k then (b.1,v) else b:=by
   unfold b5;rw[aA f]
  rw[e];clear e;induction kvs with
  |nil=>simp at f
  |cons p r i=>
   by_cases d:p.1=k
   .rw[cK,aA d]
    unfold br;by_cases a:k=c
    .rw[aA a,aA (by rw[<-a];exact d)]
    .rw[ao a,ao (λz=>a (by rw[<-d];exact z))]
     rw[ao (λz=>a (by rw[<-d];exact z))];by_cases h:(r.any λb=>decide (b.1=k))=true
     .rw[i h,ao a]
     .have:r.map (λb=>if b.1=k then (b.1,v) else b)=r:=by
       rw[tZ (g:=id)]
       .simp
       .intro q j
        rw[ao]
        .rfl
        .intro z
         exact h (jD.mpr ⟨q,j,eL z⟩)
      rw[this]
   .have h:(r.any λb=>decide (b.1=k))=true:=by simpa[d] using f
    rw[cK,ao d];unfold br;by_cases a:p.1=c
    .rw[aA a,ao (λz=>d (by rw[z];exact a)),aA a]
    .rw[ao a,ao a]
     exact i h
 .have e:b5 kvs k v=kvs++[(k,v)]:=by
   unfold b5;rw[ao f]
  rw[e];clear e;induction kvs with
  |nil=>simp[br]
  |cons p r i=>
   have d:p.1≠k:=λz=>f (by simp[z]);have h:¬(r.any λb=>decide (b.1=k))=true:=λz=>f (by simp[z]);show(if p.1=c then some p.2 else br (r++[(k,v)]) c)=if k=c then some v else (if p.1=c then some p.2 else br r c)
   by_cases a:p.1=c
   .rw[aA a,ao (λz=>d (by rw[z];exact a)),aA a]
   .rw[ao a,ao a]
    exact i h
theorem VF(kvs:List (Key×D))(k:Key)(v:D):(b5 kvs k v).length<=kvs.length+1:=by
 unfold b5;split<;>simp
theorem xG{A:Ar}{r:Nat}{kvs:List (Key×D)}{y v:D}{k:Key}{R:Ar->Prop}(h:A[r]?=some (.dct kvs))(a:gc y=some k)(b:kvs.length<sizeLine)(q:R (A.set r (.dct (b5 kvs k v)))):sZ r y v A R:=by
 unfold sZ;simp only[h,a];exact⟨b,q⟩
theorem Ag{A:Ar}{r:Nat}{c c':C}(h:A[r]?=some c):(A.set r c')[r]?=some c':=by
 rw[eF (bY.mp h).1]
theorem Az(x:Rat):(toQ (fq x)).canLay0=true:=by simp[fq,toQ,bR,canLay0,canLayAll0]
theorem Nr(x:Rat):(toQ (fq x)).depth<=64:=by simp[fq,toQ,bR,PyData.depth,depthAll]
theorem Ob(x y:Rat):PyData.eqv (toQ (fq x)) (toQ (fq y))=decide (x=y):=by
 by_cases h:x=y
 .subst h
  simp[fq,toQ,bR,PyData.eqv,eqvAll]
 .rw[gu h]
  have:¬((rf x).1=(rf y).1/\(rf x).2=(rf y).2):=λz=>h (VZ (Prod.ext z.1 z.2));by_cases h1:(rf x).1=(rf y).1
  .have h2:¬(rf x).2=(rf y).2:=λz=>this ⟨h1,z⟩
   simp[fq,toQ,bR,PyData.eqv,eqvAll,h2]
  .simp[fq,toQ,bR,PyData.eqv,eqvAll,h1]
theorem v9{x y:Rat}{A:Ar}{R:DK}(k:R (.bl (!decide (x=y))) A):gK true (fq x) (fq y) A R:=by
 unfold gK;have h1:cV A (fq x)=toQ (fq x):=rfl;have h2:cV A (fq y)=toQ (fq y):=rfl;rw[h1,h2];have:=Nr x;refine⟨rfl,rfl,Az x,Az y,ω,?_⟩;rw[Ob];exact k
theorem FF{pre:List (Str×Str×Rat)}{p:Str×Str×Rat}{n:Str}:(pre++[p]).find? (λq=>decide (q.2.1=n))=match pre.find? (λq=>decide (q.2.1=n)) with|some q=>some q|none=>if p.2.1=n then some p else none:=by
 rw[find?_append];cases pre.find? (λq=>decide (q.2.1=n)) with
 |some q=>rfl
 |none=>
  by_cases h:p.2.1=n
  .simp[h]
  .simp[h]
end DP
namespace My
open L2 DP MA
theorem Om(T:TopD K mg "bar" Ja ou)(f:aj P w K mg base 10 "shares" oz (ak mg 1 rm)):aj P w K mg base 11 "bar" ou (ak mg 1 rj):=by
 refine bF T WG λO Y Q o nd=>⟨_,(av (dS 1 nd zO)
  (av (eH dM rfl (cA (dL f O Q (aa (vr 0) af))) (ku rfl (dB (dG 2 nd) (dB (dG 3 nd) (dB (dG 4 nd) kB)))) (ay (bJ (ql o (vr 3) (vr 1)) (ay (vq o (vr 1) (vr 3) (bW (aa (vr 2) (aa (vr 4) af))) rfl)) (ay (bJ (jV o (dX o (dX o (vr 1) (vr 3)) ai) (vr 4)) (ay (aN (bW (aa (dX o (dX o (vr 1) (vr 3)) ai) (aa (vr 2) af))))) bM)))))
  (ay (aN jP)))),λds A R h Z=>?_⟩
 obtain⟨m,rfl,S,hd,q⟩:=h;obtain⟨r,k⟩:∃t,t=cP [] (bC m "" 1):=⟨_,rfl⟩;rw[<-k] at q;refine⟨rfl,m,rfl,S,hd,λU M H h1 l1=>?_⟩;have l1:A.length+1<=M:=by simpa using l1
 refine d7 h1 ?_;have ln:=m7 m "" 1;have nl:=iZ hd;have hz:(1000:Nat)<=sizeLine:=δ
 have V:=H.get (aE (A:=A) (c:=C.dct []));refine eG (λrest τ A'=>∃(pre a:List (Str×Str×Rat)) (kvs:List (Key×D)) (x y z:Option D),rest=a.map oE/\τ=[some (enc m),some (.ref A.length),x,y,z]/\pre++a=bC m "" 1/\cP pre a=r/\A'[A.length]?=some (.dct kvs)/\kvs.length<=pre.length/\(∀n:Str,br kvs (Sum.inr n)=(pre.find? λq=>decide (q.2.1=n)).map λp=>.tup [.str p.1,fq p.2.2])/\cH A.length U A'/\A.length+1<=A'.length) ?_ ?_ ?_ _ _ _ ⟨[],bC m "" 1,[],none,none,none,rfl,rfl,rfl,k.symm,V,aF _,λn=>rfl,cH.refl,by have:=H.len;simpa using this⟩
 .rintro rest τ A' ⟨pre,a,kvs,x,y,z,_,_,_,_,_,_,_,b,_⟩
  exact b M _ ω h1
 .rintro v rest τ A' ⟨pre,a,kvs,x,y,z,e,rfl,I,d,s,W,J,b,u⟩ Nx N
  cases a with
  |nil=>cases e
  |cons p a=>
   cases e;obtain⟨l,n,i⟩:=p;have g:=J n;have X:pre.length<=32:=by
    have:(pre++(l,n,i)::a).length=(bC m "" 1).length:=by rw[I]
    simp at this;omega
   unfold cP at d;refine⟨rfl,iG s rfl ?_⟩;cases j:pre.find? (λq=>decide (q.2.1=n)) with
   |none=>
    rw[j] at g d;have g:br kvs (Sum.inr n)=none:=g;rw[g];refine⟨show 2<=sizeLine by decide,xG s rfl ω ?_⟩;refine N _ _ ⟨pre++[(l,n,i)],a,_,_,_,_,rfl,rfl,by simpa using I,d,Ag s,?_,λn'=>?_,b.trans cH.set,by simpa using u⟩
    .have:=VF kvs (Sum.inr n) (.tup [.str l,fq i])
     simp;omega
    .rw[pU,FF]
     by_cases E:n=n'
     .subst E
      rw[aA rfl,j];simp
     .rw[ao (λz=>E (Sum.inr.inj z)),J n']
      cases pre.find? (λq=>decide (q.2.1=n')) with
      |some q=>rfl
      |none=>simp[E]
   |some B=>
    rw[j] at g d;have g:br kvs (Sum.inr n)=some (.tup [.str B.1,fq B.2.2]):=g;rw[g];refine fm s rfl g ?_;refine v9 ?_;by_cases L:B.2.2=i
    .have d:(if B.2.2=i then cP (pre++[(l,n,i)]) a else some (B.1,l))=r:=d
     rw[aA L] at d;refine cN (λc=>absurd L c) (λ_=>?_);refine N _ _ ⟨pre++[(l,n,i)],a,kvs,_,_,_,rfl,rfl,by simpa using I,d,s,by simp;omega,λn'=>?_,b,u⟩;rw[FF,J n'];cases F:pre.find? (λq=>decide (q.2.1=n')) with
     |some q=>rfl
     |none=>
      by_cases E:n=n'
      .subst E
       rw[j] at F;cases F
      .simp[E]
    .have d:(if B.2.2=i then cP (pre++[(l,n,i)]) a else some (B.1,l))=r:=d
     rw[ao L] at d;refine cN (λ_=>?_) (λc=>absurd c L);refine fm s rfl g ?_;refine⟨show 2<=sizeLine by decide,?_⟩;have G:=q A' (Gr.HB (Gr.push.trans H) (aF _) b);rw[<-d] at G;exact G
 .rintro τ A' ⟨pre,a,kvs,x,y,z,e,rfl,I,d,s,W,J,b,u⟩
  cases a with
  |cons p a=>cases e
  |nil=>
   have G:=q A' (Gr.HB (Gr.push.trans H) (aF _) b);rw[<-d] at G;exact G
theorem Ou(T:TopD K mg "_law_cell_at" IL wz)(a:mg "len"=none):aj P w K mg base 1 "_law_cell_at" wz (ak mg 2 C2):=by
 refine bF T Wq λi j l d nd=>⟨_,(av (bJ (BU (vr 1) (dI iQ ia a jg (aa (vr 0) af))) (ay (aN (dX d (vr 0) (vr 1)))) bM)
  (av (bJ (d_ d (vr 0) (cE af)) (ay (aN ai)) bM)
  (ay (aN (c6 (eZ (dX d (vr 0) (mJ (vr 1) (dI iQ ia a jg (aa (vr 0) af)))) ai) (vr 1)))))),λds A R h m=>?_⟩
 obtain⟨ns,k,rfl,g,q⟩:=h;refine cD (λc=>?_) (λc=>?_)
 .obtain⟨v,e,_⟩:=uR g c
  conv=>whnf
  rw[e];exact q v _ Gr.refl
 .refine⟨bQ _,N9 ?_⟩
  refine cD (λf=>?_) (λf=>?_)
  .exact q _ _ Gr.push
  .have b:0<(ns.length:Int):=by
    have:=yb.mpr f;omega
   obtain⟨v,e,_⟩:=uR (xs:=ns) (qM k ω) (qL k b);refine⟨b,?_⟩;conv=>whnf
   rw[e];exact⟨.inr ⟨δ,δ⟩,q _ _ Gr.push⟩
theorem O1(T:TopD K mg "_law_mixed" IV wF)(a:aj P w K mg base 1 "_law_cell_at" wz (ak mg 2 C2)):aj P w K mg base 2 "_law_mixed" wF (ak mg 3 Dq):=by
 refine bF T Ww λc f d j nd=>⟨_,(av (dS 3 nd (mJ (c6 (c6 (eZ (dL a c d (aa (vr 0) (aa (vr 1) af))) ai) (eZ ai (vr 1))) ai) ai))
  (ay (aN (mJ (mJ (mJ (Nl (vr 3) ai) ai) ai) (vr 2))))),λds A R h l=>?_⟩
 obtain⟨ns,k,m,rfl,e,b,q⟩:=h;refine⟨rfl,ns,k,rfl,e,λi A' g=>?_⟩;refine⟨.inr ⟨δ,δ⟩,.inl ⟨δ,δ⟩,(by decide:(0:Int)<2147483647),?_⟩;have n:=qM (i*1103515245+7919*k+12345) (show(2147483647:Int)≠0 by decide);have o:=qL (i*1103515245+7919*k+12345) (show(0:Int)<2147483647 by decide);refine⟨⟨δ,δ,?_⟩,(by decide:(0:Int)<2147483647),(by decide:(0:Int)<999983),b,?_⟩
 .have:(2147483647:Nat)<2 ^ 64:=δ
  omega
 exact q _ _ (qM _ ω) (qL _ b) g
theorem OE(T:TopD K mg "_law_draw" IM kO)(b:mg "len"=none)(a:aj P w K mg base 2 "_law_mixed" wF (ak mg 3 Dq)):aj P w K mg base 3 "_law_draw" kO (ak mg 3 mw):=by
 refine bF T Wr λe k f l nd=>⟨_,(av (c7 (gM gV jC jE iY jq (vr 1) (aa ai af)))
  (ay (aN (dL a e f (aa (vr 0) (aa (dI iQ ia b jg (aa (vr 1) af)) (aa (vr 2) af))))))),λds A R h o=>?_⟩
 obtain⟨ns,t,m,n,rfl,⟨xs,d,hz⟩,p,j,q⟩:=h;refine⟨gx d,iP d (by rw[sizeLine];omega) ?_⟩;have c:(A.set t (.lst (xs++[.int 0])))[t]?=some (.lst (xs++[.int 0])):=get_set d;refine vR c ⟨rfl,ns,_,m,rfl,ω,j,λi A' h0 h1 g=>?_⟩;exact q i A' h0 h1 (cH.set.trans g.but) (Tw.gr ⟨_,c,by simpa using hz⟩ g)
theorem Pa(T:TopD K mg "_law_pick" IZ mX)(c:mg "len"=none)(a:aj P w K mg base 3 "_law_draw" kO (ak mg 3 mw)):aj P w K mg base 4 "_law_pick" mX (ak mg 3 nH):=by
 refine bF T WA λd o e g nd=>⟨_,(ay (aN (dX g (vr 2) (dL a d e (aa (vr 0) (aa (vr 1) (aa (dI iQ ia c jg (aa (vr 2) af)) af))))))),λds A R h p=>?_⟩;obtain⟨ns,t,r,xs,n,rfl,f,d,e,j,k,q⟩:=h;have s:=yb.mpr e;refine vR d ⟨rfl,ns,t,_,n,rfl,j,k,ω,λi A' h0 h1 b t'=>?_⟩;obtain⟨v,l,m⟩:=uR h0 h1;exact kF (b r _ f d) l (q v A' m b t')
theorem O2(T:TopD K mg "_law_mobile" IW wG)(a:aj P w K mg base 3 "_law_draw" kO (ak mg 3 mw))(g:aj P w K mg base 4 "_law_pick" mX (ak mg 3 nH)):∀d,aj P w K mg base (d+4) "_law_mobile" wG (ak mg 4 (Ds d)):=by
 intro d;induction d with
 |zero=>
  refine nR T λds A R RE h=>?_;obtain⟨ns,t,q,p,n,_,h,_⟩:=h;omega
 |succ d e=>
  refine jQ T JU rfl δ λN RE f Z B outer s H E o hR l ds A R h hl=>?_;have S:=o.units;have nd:=JU.nd;refine⟨_,(av (bJ (PW.pt (gO (d_ S (vr 3) ai) (iE (d_ S (dL a o l (aa (vr 0) (aa (vr 1) (aa ai af)))) ai)))) (ay (aN (bW (aa bE (aa (dL g o l (aa (vr 0) (aa (vr 1) (aa (vr 2) af)))) af))))) bM)
  (av (dS 4 nd (dL g o l (aa (vr 0) (aa (vr 1) (aa (cE (aa ai (aa ai (aa ai (aa ai af))))) af)))))
  (av (vp (i:=5) (j:=6) rfl nd rfl rfl δ rfl rfl (aa (c6 ai (dL a o l (aa (vr 0) (aa (vr 1) (aa (vr 4) af))))) (aa (c6 ai (dL a o l (aa (vr 0) (aa (vr 1) (aa (vr 4) af))))) af)) rfl)
  (av (dS 7 nd (dL e o l (aa (vr 0) (aa (vr 1) (aa (vr 2) (aa (rS (vr 3) ai) af))))))
  (ay (aN (bW (aa bE (aa (vr 5) (aa (vr 6) (aa (vr 7) (aa (dL e o l (aa (vr 0) (aa (vr 1) (aa (vr 2) (aa (rS (vr 3) ai) af))))) af)))))))))))),?_⟩
  obtain⟨ns,t,r,p,n,rfl,_,m,M,u,v,U,hc,q⟩:=h;have hcs:=MC d;have hcp:=MB (d+1);have G:((d+1:Nat):Int) - 1=(d:Int):=ω
  have leaf:∀F n1,cH t A F->Tw t n1 F->n<=n1->n1+1<=n+cst (d+1)->nH [.fl ns,.ref t,.ref r] F (λx A'=>2<=sizeLine/\R (.tup [.str "weight",x]) A') RE:=λF n1 I t1 h0 h1=>by
   refine⟨ns,t,r,_,n1,rfl,m,I r _ m M,by simpa using u,t1,ω,λx A' l b t'=>⟨δ,?_⟩⟩;obtain⟨y,V,rfl⟩:=aM.mp l;have one:∀z∈aX.names (aX.wt y),z=y:=λz hz=>by simpa[aX.names] using hz
   exact q (.wt y) A' ⟨trivial,λz hz=>by rw[one z hz];exact v y V⟩ (succ_pos _) (λz hz=>by rw[one z hz];exact V) ⟨I.trans b,t'.mono ω⟩
  refine cD (λc=>⟨rfl,leaf A n cH.refl U ω ω⟩) (λc=>?_);refine⟨rfl,ns,t,4,n,rfl,U,ω,δ,λi F _ _ I t1=>?_⟩;refine cD (λc2=>⟨rfl,leaf F (n+1) I t1 ω ω⟩) (λc2=>?_);obtain⟨xs1,O,_⟩:=id t1;have hd0:0<d:=ω
  have l1:=cy O;refine⟨show 4<=sizeLine by decide,rfl,ns,t,_,[.int 2,.int 3,.int 4,.int 9],n+1,rfl,ω,aE,θ,t1.gr Gr.push,ω,λx A2 l b2 t2=>?_⟩;obtain⟨most,rfl,m0,m9⟩:∃k:Int,x=.int k/\2<=k/\k<=9:=by
   simp at l;rcases l with h|h|h|h<;>exact⟨_,h,ω,ω⟩
  refine⟨rfl,ns,t,most,n+2,rfl,t2,ω,ω,λi3 A3 i0 i1 b3 t3=>?_⟩;refine⟨rfl,ns,t,most,n+3,rfl,t3,ω,ω,λi4 A4 j0 j1 b4 t4=>?_⟩;have C:cH t A A4:=(((I.trans (Gr.push.but)).trans b2).trans b3).trans b4;refine⟨rfl,ns,t,r,p,n+4,show [D.fl ns,D.ref t,D.ref r,D.int (((d+1:Nat):Int) - 1 - 1)]=_ by rw[G],hd0,m,C r _ m M,u,v,t4,ω,λJ A5 W d1 s1 Q=>?_⟩;refine⟨rfl,ns,t,r,p,n+4+cst d,show [D.fl ns,D.ref t,D.ref r,D.int (((d+1:Nat):Int) - 1 - 1)]=_ by rw[G],hd0,m,Q.but r _ m (C r _ m M),u,v,Q.tw,ω,λL A6 X d2 s2 Y=>?_⟩;refine⟨show 5<=sizeLine by decide,q (.bS (1+i3) (1+i4) J L) A6 ⟨⟨ω,ω,ω,ω,W.arms,X.arms⟩,λx l=>?_⟩ (show max J.deep L.deep+1<d+1 by omega) (λx l=>?_) ⟨(C.trans Q.but).trans Y.but,Y.tw.mono ω⟩⟩
  .rcases bX.mp (show x∈J.names++L.names from l) with h|h
   .exact W.nm x h
   .exact X.nm x h
  .rcases bX.mp (show x∈J.names++L.names from l) with h|h
   .exact s1 x h
   .exact s2 x h
theorem Tc{c:Nat}(h1:97<=c)(h2:c<=122):Nm ⟨#[c]⟩:=by
 refine⟨by show 1<=1;decide,by show 1<=3;decide,λx a=>?_⟩;have:x=c:=by simpa using a
 omega
theorem DM:("abcdefghijklmnopqrstuvwxyz":Str).cps.toList=(range 26).map (·+97):=η
theorem LL{k:Int}(h0:0<=k)(h1:k<26):∃c,cY ("abcdefghijklmnopqrstuvwxyz":Str).cps.toList k=some c/\97<=c/\c<=122:=by
 obtain⟨c,hc,a⟩:=uR (xs:=("abcdefghijklmnopqrstuvwxyz":Str).cps.toList) h0 (by rw[DM];simpa using h1);refine⟨c,hc,?_⟩;rw[DM] at a;obtain⟨j,b,rfl⟩:=aM.mp a;have:=mem_range.mp b;omega
theorem OG(T:TopD K mg "_law_fresh" IQ wB)(g:mg "len"=none):∀d,aj P w K mg base (d+1) "_law_fresh" wB (ak mg 2 (C9 d)):=by
 intro d;induction d with
 |zero=>
  refine nR T λds A R RE h=>?_;obtain⟨m,q,n,_,_,h,_⟩:=h;omega
 |succ d e=>
  refine jQ T JT rfl δ λN RE f I B outer s H E t Y o ds A R h Z=>?_;have i:=t.units;have nd:=JT.nd;refine⟨_,(av (bJ (d_ i (dX i (vr 0) ai) bE) (av (c7 (gM gV jC jE iY jq (vr 1) (aa ai af)))
  (ay (aN (bW (aa bE (aa (dX i bE (mJ (eZ (dI iQ ia g jg (aa (vr 1) af)) ai) ai)) af)))))) bM)
  (av (dS 2 nd (dL e t o (aa (dX i (vr 0) ai) (aa (vr 1) af))))
  (ay (aN (c6 (zQ (vr 0) zV (zW ai)) (bW (aa (vr 2) (aa (dL e t o (aa (dX i (vr 0) ai) (aa (vr 1) af))) af)))))))),?_⟩
  obtain⟨m,r,n,rfl,J,hd,h8,⟨xs,p,hz⟩,hn,q⟩:=h;have p2:2 ^ (d+1)=2*2 ^ d:=by rw[pow_succ];omega
  have p0:0<2 ^ d:=pow_pos δ;have hsz:(1000000:Nat)<sizeLine:=δ
  cases m with
  |wt y=>
   refine⟨gx p,iP p ω ?_⟩;have j:(A.set r (.lst (xs++[.int 0])))[r]?=some (.lst (xs++[.int 0])):=get_set p;refine vR j ⟨.inr ⟨δ,δ⟩,(by decide:(0:Int)<26),?_⟩;obtain⟨c,hc,L,M⟩:=LL (qM (((xs++[D.int 0]).length:Nat)*7:Int) δ) (qL (((xs++[D.int 0]).length:Nat)*7:Int) δ);refine Rr hc η ⟨show 2<=sizeLine by decide,?_⟩;have one:∀z∈aX.names (aX.wt (⟨#[c]⟩:Str)),z=⟨#[c]⟩:=λz hz=>by simpa[aX.names] using hz
   exact q (.wt ⟨#[c]⟩) _ ⟨trivial,λz hz=>by rw[one z hz];exact Tc L M⟩ rfl ⟨cH.set,_,j,by simp;omega⟩
  |bS l r' a b=>
   have O:max a.deep b.deep+1<d+1:=hd;obtain⟨⟨h1,h2,Q,S,U,V⟩,k⟩:=J;refine⟨rfl,a,r,n,rfl,⟨U,λx h=>k x (by simp[aX.names,h])⟩,ω,ω,⟨xs,p,hz⟩,ω,λu A1 C W ra=>?_⟩;refine⟨show ¬(HT.bh 5 0 none=0/\HT.bh 5 5 (some 3)=5) by decide,rfl,b,r,n+2 ^ d,rfl,⟨V,λx h=>k x (by simp[aX.names,h])⟩,ω,ω,ra.tw,ω,λv X F db G=>?_⟩;refine⟨show 2<=sizeLine by decide,show 3+2<=sizeLine by decide,?_⟩;refine q (.bS l r' u v) X ⟨⟨h1,h2,Q,S,C.arms,F.arms⟩,λx o=>?_⟩ (show max u.deep v.deep+1=max a.deep b.deep+1 by rw[W,db]) ⟨ra.but.trans G.but,G.tw.mono ω⟩;rcases bX.mp (show x∈u.names++v.names from o) with h|h
   .exact C.nm x h
   .exact F.nm x h
theorem Hu:Nm "a":=⟨η,η,η⟩
theorem Hv:Nm "b":=⟨η,η,η⟩
theorem S9:Nm "c":=⟨η,η,η⟩
theorem Td:Nm "x":=⟨η,η,η⟩
theorem S_:Nm "kk":=⟨η,η,η⟩
theorem Te:∀x∈(["a"]:List Str),Nm x:=λx h=>by
 rw[bI.mp h];exact Hu
theorem Tf:∀x∈(["a","b"]:List Str),Nm x:=λx h=>by
 rcases aY.mp h with e|h
 .rw[e]
  exact Hu
 rw[bI.mp h];exact Hv
theorem Tg:∀x∈(["x","b","kk","c"]:List Str),Nm x:=λx h=>by
 rcases aY.mp h with e|h
 .rw[e]
  exact Td
 rcases aY.mp h with e|h
 .rw[e]
  exact Hv
 rcases aY.mp h with e|h
 .rw[e]
  exact S_
 rw[bI.mp h];exact S9
theorem Pp(T:TopD K mg "_law_some" I0 wJ)(f:aj P w K mg base 3 "_law_draw" kO (ak mg 3 mw))(j:aj P w K mg base 4 "_law_pick" mX (ak mg 3 nH))(FM:∀d,aj P w K mg base (d+4) "_law_mobile" wG (ak mg 4 (Ds d)))(b:aj P w K mg base 9 "_law_fresh" wB (ak mg 2 (C9 8)))(dd:Nat)(s:dd<=4):aj P w K mg base 10 "_law_some" wJ (ak mg 3 (DG dd)):=by
 have a:=(FM (dd+1)).mono (show dd+1+4<=9 by omega);refine bF T WB λo hR hx Q nd=>⟨_,(av (dS 3 nd (dL a o hx (aa (vr 0) (aa (vr 1) (aa (dL j o hx (aa (vr 0) (aa (vr 1) (aa (cE (aa (cE (aa bE af)) (aa (cE (aa bE (aa bE af))) (aa (cE (aa bE (aa bE (aa bE (aa bE af))))) af)))) af)))) (aa (vr 2) af))))))
  (ay (aN (ve (d_ Q (dL f o hx (aa (vr 0) (aa (vr 1) (aa ai af)))) ai) (vr 3) (dL b o hx (aa (vr 3) (aa (cE af) af))))))),λds A R h hl=>?_⟩
 obtain⟨ns,t,n,rfl,H,hn,q⟩:=h;obtain⟨S,u,U⟩:=id H;have l0:=cy u;have V:=Mz s;have W:(1:Nat)<=sizeLine:=δ
 have X:(2:Nat)<=sizeLine:=δ
 have Y:(3:Nat)<=sizeLine:=δ
 have s4:(4:Nat)<=sizeLine:=δ
 refine⟨W,X,s4,Y,rfl,ns,t,_,_,n,rfl,?_,aE,θ,((((H.gr Gr.push).gr Gr.push).gr Gr.push).gr Gr.push),ω,λx I hx p t1=>?_⟩
 .simp;omega
 have g:Gr A (A++[C.lst [D.str "a"]]++[C.lst [D.str "a",D.str "b"]]++[C.lst [D.str "x",D.str "b",D.str "kk",D.str "c"]]++[C.lst [D.ref A.length,D.ref (A++[C.lst [D.str "a"]]).length,D.ref (A++[C.lst [D.str "a"]]++[C.lst [D.str "a",D.str "b"]]).length]]):=((Gr.push.trans Gr.push).trans Gr.push).trans Gr.push;have e1:(A++[C.lst [D.str "a"]]).length=A.length+1:=θ
 have e2:(A++[C.lst [D.str "a"]]++[C.lst [D.str "a",D.str "b"]]).length=A.length+2:=θ
 obtain⟨r,k,rfl,v,h1,y,z⟩:∃(r:Nat) (k:List Str),x=.ref r/\r≠t/\I[r]?=some (.lst (k.map D.str))/\k≠[]/\∀x∈k,Nm x:=by
  rcases aY.mp hx with e|hx
  .exact⟨_,["a"],e,ω,p _ _ ω (getElem?_push (getElem?_push (getElem?_push aE))),θ,Te⟩
  rcases aY.mp hx with e|hx
  .exact⟨_,["a","b"],e,ω,p _ _ ω (getElem?_push (getElem?_push aE)),θ,Tf⟩
  .exact⟨_,["x","b","kk","c"],bI.mp hx,ω,p _ _ ω (getElem?_push aE),θ,Tg⟩
 have B:cH t A I:=g.but.trans p;refine⟨rfl,ns,t,r,k,n+1,show [D.fl ns,D.ref t,D.ref r,D.int (dd:Nat)]=_ by rw[show(((dd+1:Nat):Int) - 1)=(dd:Nat) by omega],ω,v,h1,y,z,t1,ω,λm A2 J dm _ L=>?_⟩;refine⟨rfl,ns,t,2,n+1+cst (dd+1),rfl,L.tw,ω,δ,λi M _ _ Z t3=>?_⟩;have E:Dr t A M n 200:=⟨(B.trans L.but).trans Z,t3.mono ω⟩;refine cD (λc=>q m M J ω E) (λc=>⟨bQ _,rfl,m,_,0,rfl,J,ω,δ,⟨[],aE,aF _⟩,δ,λm' A4 F Zr N=>?_⟩);refine q m' A4 F ω ?_;obtain⟨G,l,ZJ⟩:=t3;have l3:=cy l;refine⟨λq c O h=>N.but q c ?_ (getElem?_push (E.but q c O h)),?_⟩
 .have:=cy (E.but q c O h)
  omega
 .exact⟨G,N.but t _ ω (getElem?_push l),ω⟩
end My
namespace DP
open L2 MA
def zo:Ct:=λds A R _=>∃ns t q nms n,ds=[.fl ns,.ref t,.ref q]/\q≠t/\A[q]?=some (.lst (nms.map D.str))/\nms.Pairwise strLt/\(∀x∈nms,Nm x)/\nms.length<64/\Tw t n A/\n+100<=1000000/\∀rs A',jm rs->rs.map (·.1)=nms->Dr t A A' n 100->R (fc rs) A'
end DP
namespace My
open L2 DP MA
theorem OX(T:TopD K mg "_law_leaves" IU sJ):∀d,aj P w K mg base (d+1) "_law_leaves" sJ (ak mg 1 (zf d)):=by
 intro d;induction d with
 |zero=>
  refine nR T λds A R RE h=>?_;obtain⟨v,⟨m,_,h,_⟩,_⟩:=h;omega
 |succ d c=>
  refine jQ T Wv rfl δ λN RE f k B outer s H E g t i ds A R h u=>?_;have e:=g.units;refine⟨_,(ay (aN (ve (d_ e (dX e (vr 0) ai) bE) (cE (aa (dX e (vr 0) ai) af)) (c6 (dL c g i (aa (dX e (vr 0) ai) af)) (dL c g i (aa (dX e (vr 0) ai) af)))))),?_⟩;obtain⟨v,⟨m,rfl,hd,x,rfl⟩,q⟩:=h;cases m with
  |wt n=>exact⟨show 1<=sizeLine by decide,q _ _ Gr.push aE⟩
  |bS l r a b=>
   have o:max a.deep b.deep+1<d+1:=hd;refine⟨rfl,_,⟨a,rfl,ω,ω,rfl⟩,λy z p h1=>?_⟩;refine⟨rfl,_,⟨b,rfl,ω,ω,rfl⟩,λC D j h2=>?_⟩;have n1:=aX.lJ a;have n2:=aX.lJ b;have p1:2 ^ a.deep<=2 ^ 8:=fj δ ω;have p2:2 ^ b.deep<=2 ^ 8:=fj δ ω;have hz:(512:Nat)<=sizeLine:=δ
   refine iR (j.get h1) h2 (by rw[aK,aK];omega) (q _ _ ((p.trans j).trans Gr.push) ?_);rw[aE];simp[aX.names]
theorem O7(T:TopD K mg "_law_names" IX wH)(b:mg "sorted"=none)(c:mg "set"=none)(a:aj P w K mg base 9 "_law_leaves" sJ (ak mg 1 (zf 8))):aj P w K mg base 10 "_law_names" wH (ak mg 1 Dy):=by
 refine bF T Wx λe j f k nd=>⟨_,(ay (aN (zR b c rfl (aa (dL a e f (aa (vr 0) af)) af)))),λds A R h l=>?_⟩;obtain⟨m,rfl,hd,q⟩:=h;refine⟨rfl,_,⟨m,rfl,ω,ω,rfl⟩,λn o d h1=>?_⟩;have n1:=aX.lJ m;have p1:2 ^ m.deep<=2 ^ 5:=fj δ hd;refine BG (ss:=m.names) h1 (by have:=strs_map id m.names;simpa using this) ω λys g i=>?_;exact q _ _ ys (d.trans Gr.push) d.len aE g i
theorem Py(T:TopD K mg "_law_weights" I9 sM)(j:mg "tuple"=none)(d:aj P w K mg base 3 "_law_draw" kO (ak mg 3 mw))(f:aj P w K mg base 4 "_law_pick" mX (ak mg 3 nH)):aj P w K mg base 5 "_law_weights" sM (ak mg 3 zo):=by
 refine bF T WD λC O s S nd=>⟨_,(av (dS 3 nd (dL f C s (aa (vr 0) (aa (vr 1) (aa (cE (aa ai (aa ai (aa ai (aa ai af))))) af)))))
  (ay (aN (ie rJ rQ j j7 (aa (eY none (own:=["_law_name"]) (frees:=["_law_script","_law_town","_law_wide"]) (ix:=[0,1,3]) rfl (cA (vr 2)) (λc=>(pG 0 (show(["_law_name","_law_script","_law_town","_law_wide"]:List Str).Nodup by decide+kernel))) (λc=>(bW (aa (vr 0) (aa (c6 ai (dL d C m5 (aa (vr 1) (aa (vr 2) (aa (vr 3) af))))) af))))) af))))),λds A R h U=>?_⟩
 obtain⟨ns,t,r,g,n,rfl,m,E,l,v,F,G,V,q⟩:=h;obtain⟨H,z,_⟩:=id G;have W:=cy z;refine⟨show 4<=sizeLine by decide,rfl,ns,t,_,[.int 1,.int 2,.int 4,.int 12],n,rfl,ω,aE,θ,G.gr Gr.push,ω,λx I s J t1=>?_⟩;obtain⟨wide,rfl,m0,X⟩:∃k:Int,x=.int k/\1<=k/\k<=12:=by
  simp at s;rcases s with h|h|h|h<;>exact⟨_,h,ω,ω⟩
 have o:cH t A I:=Gr.push.but.trans J;refine d7 (o r _ m E) ?_;refine pI (λrest ys A'=>∃(rs:List (Str×Int)) (a:List Str),rest=a.map D.str/\ys=rs.map bH/\rs.map (·.1)++a=g/\(∀p∈rs,1<=p.2/\p.2<=12)/\cH t A A'/\Tw t (n+1+rs.length) A') ?_ ?_ ?_ ?_ _ _ _ ⟨[],g,rfl,rfl,rfl,λ_ h=>(by cases h),o,t1⟩
 .rintro rest ys A' ⟨rs,a,_,_,_,_,b,_⟩
  exact b r _ m E
 .rintro rest ys A' ⟨rs,a,_,rfl,e,_,_,_⟩
  have:(rs.map (·.1)++a).length=g.length:=by rw[e]
  have hz:(64:Nat)<=sizeLine:=δ
  simp at this ⊢;omega
 .rintro x rest ys A' ⟨rs,a,u,rfl,e,B,b,t'⟩
  cases a with
  |nil=>cases u
  |cons y a=>
   cases u;have:(rs.map (·.1)++y::a).length=g.length:=by rw[e]
   simp at this;refine⟨[.str y],rfl,λQ L=>⟨rfl,ns,t,wide,n+1+rs.length,rfl,t',ω,ω,λi Y Z i1 M N=>⟨show 2<=sizeLine by decide,L _ _ ⟨rs++[(y,1+i)],a,rfl,by simp[bH],by simpa using e,λp l=>?_,b.trans M,by rw[cM];exact N⟩⟩⟩⟩;rcases bX.mp l with h|h
   .exact B p h
   .rw[bI.mp h]
    exact⟨show 1<=1+i by omega,show 1+i<=12 by omega⟩
 .rintro ys A' ⟨rs,a,u,rfl,e,B,b,t'⟩
  cases a with
  |cons y a=>cases u
  |nil=>
   have e:rs.map (·.1)=g:=by simpa using e
   have el:rs.length=g.length:=by rw[<-e];simp
   refine tQ aE (q rs _ ⟨λp l=>v _ (by rw[<-e];exact cX l),λp l=>?_,by rw[e];exact l,ω⟩ e ⟨b.trans Gr.push.but,(t'.gr Gr.push).mono ω⟩);have:=B p l;omega
end My
namespace L2
theorem k8.TR{P:Program}{w:World}{K:Frag}{mg:aB}{base:Heap}{x:Str}{st:Stmt}{N ps:List Str}{k:Nat}{sp:Sp}{f:Addr}{fd:FuncData}(F:k8 K x x st f fd)(S:aW N ps (aI st))(len:∀vs H Q E,sp vs H Q E->vs.length=ps.length)
  (b:∀(f:Addr) (a:Value) (A:Around) (outer:List Env) (s:Shared) (H:Hp) (vs:List V) (Q:VK) (E:XK),dW k (A.deeper (envOfC x (aI st) s.heap.objs.size f a))->sp vs H Q E->
   ∃t,dU (cZ (bV P w) P w K mg base N x (aI st) f a A outer s H E) (iD st) t/\t {nx:=λ_ H'=>Q .aG H',rt:=Q} (start N vs) H):gb P w K mg base (bV P w) (k+1) f fd ps sp:=by
 obtain⟨h,i,kV,doc,pm,an,a,ct,e,rfl,lk,c⟩:=F.ex;exact FJ lk c S len λA outer s H vs Q E g d=>b f a A outer s H vs Q E g d
end L2
namespace DP
open L2 MA
theorem PD{P:Program}{w:World}{K:Frag}{mg:aB}{base:Heap}{x:Str}{st:Stmt}{Nm ps:List Str}{k n:Nat}{S:Ct}{y:Addr}{fd:FuncData}(T:k8 K x x st y fd)(Sc:aW Nm ps (aI st))(G:ps.length=n)(Y:ps.length<=Nm.length)
  (j:∀(N:En) (RE:DX) (f:Addr) (g:Value) (B:Around) (outer:List Env) (s:Shared) (H:Hp) (E:XK),dW k (cZ (bV P w) P w K mg base Nm x (aI st) f g B outer s H E).A->
   Raises (cZ (bV P w) P w K mg base Nm x (aI st) f g B outer s H E) (EL mg N RE)->Passes (bV P w) (cZ (bV P w) P w K mg base Nm x (aI st) f g B outer s H E) (EL mg N RE)->
   ∀ds A R,S ds A R RE->ds.length=n->∃m,dU (cZ (bV P w) P w K mg base Nm x (aI st) f g B outer s H E) (iD st) (dj mg N m)/\m {nx:=λ_ A'=>R .aG A',rt:=R} (lO (Nm.length - n) ds) A):gb P w K mg base (bV P w) (k+1) y fd ps (ak mg n S):=by
 refine T.TR Sc (λvs H Q E h=> ?_) λf g A outer s H vs Q E J h=> ?_
 .obtain⟨A,ι,ds,R,RE,t,_,o,_⟩:=h
  rw[<-au.length o,t,G]
 .obtain⟨p,l,ds,R,RE,t,ra,o,L,D,M⟩:=h
  have F:∀C a H',EL mg ⟨p,l,H⟩ RE C a H'->E C none H':=λC a H' z=>by
   obtain⟨c,A',ι',⟨b,rfl,hc⟩,ex,r,q⟩:=z
   exact M c A' ι' H' b q hc ex r
  obtain⟨m,O,U⟩:=j ⟨p,l,H⟩ RE f g A outer s H E J
   (λpins σ H1 u e h' C args I V z=>Ip pins σ H1 u e h' C args I V (F _ _ _ z))
   (λpins σ H1 u e s' I z=>HK pins σ H1 u e s' I (by
    obtain⟨a,C,H',h1,h2,W⟩:=z
    exact⟨a,C,H',h1,h2,F _ _ _ W⟩)) ds p R L t
  have X:=au.length o
  refine⟨_,O,p,l,_,_,⟨ra,⟨?_,λi d q=> ?_⟩,ra.refl⟩,U,⟨λτ A' ι' σ H' q e r _=>D _ A' ι' H' _ q e r rfl,D,λ_ _ _ _ _ q _ _ _=>q.elim,λ_ _ _ _ _ q _ _ _=>q.elim⟩⟩
  .simp[lO,L2.start]
   omega
  .obtain⟨v,h1,h2⟩:=au.get o (AI ds _ i d q)
   refine⟨v,?_,h2⟩
   have hi:=(bY.mp h1).1
   unfold L2.start
   rw[iu (by simpa using hi),ck,h1]
   rfl
def Dg:Ct:=λds A R _=>∃ns,ds=[.fl ns]/\∀A',R (.bl true) A'
noncomputable def qg:Sp:=λvs H Q _=>∃(a:Addr) (o:Obj) (ns:List Int),vs=[.ref a]/\H a=some (.bT o (.lst (ns.map V.int)))/\∀H',Q (.bl true) H'
theorem XM{mg:aB}{vs:List V}{H:Hp}{Q:VK}{E:XK}(h:qg vs H Q E):ak mg 1 Dg vs H Q E:=by
 obtain⟨a,o,ns,rfl,h,q⟩:=h;refine⟨[],λ_=>a,[.fl ns],λv _=>v=.bl true,λ_ _=>False,rfl,⟨λr c h=>by simp at h,λr s b=>by simp at b⟩,⟨_,[],rfl,⟨a,o,rfl,h⟩,rfl⟩,⟨ns,rfl,λ_=>rfl⟩,λv A' ι' H' u e _ _ r=>?_,λ_ _ _ _ _ z=>z.elim⟩;subst e;cases r;exact q _
noncomputable def oj(o:Obj):Bool:=match o.cls with
 |.type t=> !(decide (t="list"))
 |_=>true
theorem Tj{K:Frag}(h:K.all (λp=>oj p.2)=true){a:Addr}{o:Obj}(e:K.lookup a=some o):oj o=true:=by
 induction K with
 |nil=>cases e
 |cons p r b=>
  have h':oj p.2=true/\List.all r (λp=>oj p.2)=true:=by simpa using h
  rw[List.lookup] at e;split at e
  .cases e
   exact h'.1
  .exact b h'.2 e
theorem PN{K:Frag}(b:K.all (λp=>oj p.2)=true){H:Hp}{a:Addr}{ns:List Int}(d:uH H)(f:aV K H a (ns.map V.int)):qg [.ref a] H (λv _=>v=.bl true) λ_ _ _=>False:=by
 rcases f with (e|⟨o,e⟩)|⟨o,its,n,e,c,_⟩
 .rcases d a with z|⟨o,xs,z⟩
  .rw[z] at e;cases e
  .rw[z] at e;cases e
 .exact⟨a,o,ns,rfl,e,λ_=>rfl⟩
 .have:=Tj b e
  unfold oj at this;rw[c] at this;simp at this
theorem pw_len:∀(ys ss:List Str),ys.Pairwise strLt->(∀x∈ys,x∈ss)->ys.length<=ss.length
 |[],_,_,_=>bQ _
 |y::r,ss,d,a=>by
  have p:=gU.mp d;have b:=a y (aT ..);have:=pw_len r (ss.erase y) p.2 λx c=>(t_ (BJ (p.1 x c)).symm).mpr (a x (bq _ c));rw[tY b] at this;have:=qv b;simp;omega
def Dl:Ct:=λds A R _=>∃r xs,ds=[.ref r]/\A[r]?=some (.lst (xs.map fq))/\xs.length<=32/\(∀x∈xs,mq x)/\xs≠[]/\∀A' q,Gr A A'->A'[q]?=some (.lst ((lw xs).map D.int))->A.length<=q->R (.ref q) A'
structure Fb(kvs:List (Key×D))(ns:List Str)(s:Str->Rat):Prop where
 keys:kvs.map (·.1)=ns.map Sum.inr
 nd:ns.Nodup
 get:∀n∈ns,br kvs (Sum.inr n)=some (fq (s n))
def zh:Ct:=λds A R _=>∃m,ds=[enc m]/\Wf m/\m.deep<=5/\cP [] (bC m "" 1)=none/\∀(A':Ar) (q:Nat) (kvs:List (Key×D)) (ns:List Str),Gr A A'->A'[q]?=some (.dct kvs)->A.length<=q->Fb kvs ns (shr m)->(∀n,n∈ns↔n∈m.names)->R (.ref q) A'
def Dm:Ct:=λds A R _=>∃(r:Nat) (kvs:List (Key×D)) (ns:List Str) (s:Str->Rat),ds=[.ref r]/\A[r]?=some (.dct kvs)/\Fb kvs ns s/\ns.length<=32/\ns≠[]/\(∀n∈ns,mq (s n))/\∀(A':Ar) (ys:List Str),Gr A A'->ys.Pairwise strLt->(∀x,x∈ys↔x∈ns)->R (fc (ys.zip (lw (ys.map s)))) A'
def Di:Ct:=λds A R RE=>∃m,ds=[enc m]/\Wf m/\m.deep<=5/\∀A',Gr A A'->if cP [] (bC m "" 1)=none then ∀ys:List Str,ys.Pairwise strLt->(∀x,x∈ys↔x∈m.names)->R (fc (ys.zip (lw (ys.map (shr m))))) A' else RE "Never" A'
theorem z8:∀(ps:List (Str×D)) (acc:List (Key×D)) (ns:List Str),acc.map (·.1)=ns.map Sum.inr->ns.Nodup->
  ∃d:List Str,((ps.map λp=>((Sum.inr p.1:Key),p.2)).foldl (λacc p=>b5 acc p.1 p.2) acc).map (·.1)=d.map Sum.inr/\d.Nodup/\(∀n,n∈d↔n∈ns\/n∈ps.map (·.1))
 |[],acc,ns,h1,h2=>⟨ns,h1,h2,λn=>θ⟩
 |p::ps,acc,ns,h1,h2=>by
  have key:∃f:List Str,(b5 acc (Sum.inr p.1) p.2).map (·.1)=f.map Sum.inr/\f.Nodup/\∀n,n∈f↔n∈ns\/n=p.1:=by
   by_cases j:(acc.any λc=>decide (c.1=(Sum.inr p.1:Key)))=true
   .have e:b5 acc (Sum.inr p.1) p.2=acc.map λc=>if c.1=(Sum.inr p.1:Key) then (c.1,p.2) else c:=by
     unfold b5;rw[aA j]
    refine⟨ns,?_,h2,λn=>?_⟩
    .rw[e,bK,<-h1]
     refine tZ λc _=>?_;show(if c.1=(Sum.inr p.1:Key) then (c.1,p.2) else c).1=c.1;split<;>rfl
    .have g:p.1∈ns:=by
      obtain⟨c,i,m⟩:=jD.mp j;have:c.1∈acc.map (·.1):=cX i;rw[h1,gD m] at this;obtain⟨x,o,e⟩:=aM.mp this;rw[<-Sum.inr.inj e];exact o
     constructor
     .exact .inl
     .rintro (h|rfl)
      .exact h
      .exact g
   .have e:b5 acc (Sum.inr p.1) p.2=acc++[(Sum.inr p.1,p.2)]:=by
     unfold b5;rw[ao j]
    have k:p.1∉ns:=λg=>j (by
     have:(Sum.inr p.1:Key)∈acc.map (·.1):=by rw[h1];exact cX g
     obtain⟨c,i,e⟩:=aM.mp this;exact jD.mpr ⟨c,i,eL e⟩)
    refine⟨ns++[p.1],by rw[e];simp[h1],?_,λn=>θ⟩;rw[oM];refine⟨h2,θ,λa l b q=>?_⟩;rw[bI.mp q];exact λz=>k (by rw[<-z];exact l)
  obtain⟨f,k1,k2,k3⟩:=key;obtain⟨d,r,s,t⟩:=z8 ps _ f k1 k2;refine⟨d,r,s,λn=>?_⟩;rw[t,k3];simp[or_assoc]
theorem FO(g:Str->D):∀(ps:List (Str×D)) (acc:List (Key×D)) (n:Str),(∀p∈ps,p.2=g p.1)->(n∈ps.map (·.1)\/br acc (Sum.inr n)=some (g n))->br ((ps.map λp=>((Sum.inr p.1:Key),p.2)).foldl (λacc p=>b5 acc p.1 p.2) acc) (Sum.inr n)=some (g n)
 |[],acc,n,_,h=>by
  rcases h with h|h
  .simp at h
  .exact h
 |p::ps,acc,n,b,h=>by
  refine FO g ps _ n (λq c=>b q (bq _ c)) ?_;by_cases a:p.1=n
  .right
   rw[pU,aA (show(Sum.inr p.1:Key)=Sum.inr n by rw[a])];show some p.2=some (g n);rw[b p (aT ..),a]
  .rcases h with h|h
   .rcases aY.mp (show n∈p.1::ps.map (·.1) from h) with e|e
    .exact absurd e.symm a
    .exact .inl e
   .right
    rw[pU,ao (show ¬(Sum.inr p.1:Key)=Sum.inr n from λz=>a (Sum.inr.inj z))];exact h
noncomputable def wg(p:Str×Str×Rat):D:=.tup [.str p.2.1,fq p.2.2]
theorem AZ:∀a:List (Str×Str×Rat),fy (a.map wg)=some ((a.map λp=>(p.2.1,fq p.2.2)).map λp=>((Sum.inr p.1:Key),p.2))
 |[]=>rfl
 |r::a=>by
  have:=AZ a;simp only[cK,wg,fy,gc,this]
theorem u_{A:Ar}{r:Nat}{xs:List D}{ps:List (Key×D)}{R:DK}(h:A[r]?=some (.lst xs))(a:fy xs=some ps)(b:ps.length<=1000)(k:R (.ref A.length) (A++[.dct (m6 ps)])):u9 r A R:=by
 unfold u9;simp only[h];unfold dctP;rw[a];exact⟨b,k⟩
theorem Y6{rs:List (Str×Int)}(b:(rs.map (·.1)).Nodup){r:Str×Int}(h:r∈rs):val rs r.1=r.2:=by
 unfold val;induction rs with
 |nil=>cases h
 |cons p rs c=>
  have a:=iK.mp (show(p.1::rs.map (·.1)).Nodup from b);rcases aY.mp h with rfl|h
  .simp
  .have:¬p.1=r.1:=λz=>a.1 (by rw[z];exact cX h)
   rw[List.find?_cons_of_neg (by simpa using this)];exact c a.2 h
theorem V4{xs:List Str}(h:xs.Pairwise strLt):xs.Nodup:=h.imp λz=>BJ z
end DP
namespace My
open L2 DP MA
theorem OZ(T:TopD K mg "least_whole" JA xg)(k:aj P w K mg base 1 "greatest_divisor" sQ (ak mg 2 zc)):aj P w K mg base 2 "least_whole" xg (ak mg 1 Dl):=by
 refine bF T W6 λN hR O E nd=>⟨_,(av (dS 1 nd ai)
  (av (eH dM rfl (cA (vr 0)) (dG 2 nd) (ay (dS 1 nd (pK (eZ (vr 1) (dX E (vr 2) ai)) (dL k N O (aa (vr 1) (aa (dX E (vr 2) ai) af)))))))
  (av (Fi none (own:=["fraction"]) (frees:=["bottom"]) (ix:=[1]) (i:=3) nd rfl (by first|exact Or.inl rfl|exact Or.inr rfl) rfl (cA (vr 0)) (λc=>(pG 0 (show(["fraction","bottom"]:List Str).Nodup by decide+kernel))) (λc=>(eZ (dX E (vr 0) ai) (pK (vr 1) (dX E (vr 0) ai)))))
  (av (dS 4 nd ai)
  (av (eH dM rfl (cA (vr 3)) (dG 5 nd) (ay (dS 4 nd (dL k N O (aa (vr 4) (aa (vr 5) af))))))
  (ay (aN (eY none (own:=["number"]) (frees:=["divisor"]) (ix:=[4]) rfl (cA (vr 3)) (λc=>(pG 0 (show(["number","divisor"]:List Str).Nodup by decide+kernel))) (λc=>(pK (vr 0) (vr 1))))))))))),λds A R h hl=>?_⟩
 obtain⟨r,xs,rfl,G,l,hok,H,q⟩:=h;have hz:(1000:Nat)<=sizeLine:=δ
 have DW:(1152921504606846976:Int)<2 ^ 64:=δ
 obtain⟨b0,_,b3⟩:=pH xs 1 δ;refine d7 G ?_;refine eG (λrest τ A'=>∃(pre j:List Rat) (x:Option D),rest=j.map fq/\τ=[some (.ref r),some (.int (bot pre 1)),x,none,none,none]/\pre++j=xs/\Gr A A') ?_ ?_ ?_ _ _ _ ⟨[],xs,none,rfl,rfl,rfl,Gr.refl⟩
 .rintro rest τ A' ⟨pre,j,x,_,_,_,g⟩
  exact g.get G
 .rintro v rest τ A' ⟨pre,j,x,e,rfl,m,g⟩ Nx I
  cases j with
  |nil=>cases e
  |cons y j=>
   cases e;have s:=hok y (by rw[<-m];simp);have F:=cR y;have S:=s.den;obtain⟨U,_,_⟩:=pH pre 1 δ;have V:0<(Int.gcd (bot pre 1) (rf y).2:Int):=by
    have:=Int.gcd_pos_of_ne_zero_right (bot pre 1) (show(rf y).2≠0 by omega);omega
   have J:(Int.gcd (bot pre 1) (rf y).2:Int)<=(rf y).2:=le_of_dvd F (uy _ _);refine⟨.inr ⟨ω,ω⟩,rfl,_,⟨_,_,rfl,ω,ω,rfl⟩,λo h1=>⟨⟨V,AJ V (J' ω)⟩,?_⟩⟩;refine I _ _ ⟨pre++[y],j,some (fq y),rfl,?_,by simpa using m,g.trans h1⟩;rw[Ef];rfl
 rintro τ o ⟨pre,j,x,e,rfl,m,J⟩;cases j with
 |cons p j=>cases e
 |nil=>
 have m:pre=xs:=by simpa using m
 subst m;have t:=J.get G;refine d7 t ?_;refine iS (f:=λd=>match d with|.tup [.int a,.int b]=>.int (a*(bot pre 1/b))|d=>d) t _ _ (λd hd=>?_) (by simp;omega) ?_
 .obtain⟨y,hy,rfl⟩:=aM.mp hd
  have s:=hok y hy;have x1:=d8 s.pos;have F:=cR y;have S:=s.den;have x4:=s.num;exact⟨[fq y],rfl,λQ L=>⟨⟨F,AJ F (J' S)⟩,.inl ⟨ω,ω⟩,L⟩⟩
 have eu:(pre.map fq).map (λd=>match d with|.tup [.int a,.int b]=>D.int (a*(bot pre 1/b))|d=>d)=(ups pre).map D.int:=by
  unfold ups;rw[bK,bK];rfl
 rw[fC,eu];have u:(ups pre).length=pre.length:=by simp[ups]
 have M:=aE (A:=o) (c:=C.lst ((ups pre).map D.int));have g2:Gr o (o++[C.lst ((ups pre).map D.int)]):=Gr.push;generalize Zy:o++[C.lst ((ups pre).map D.int)]=A2 at*
 refine d7 M ?_;refine eG (λrest τ A'=>∃(dn j:List Int) (y:Option D),rest=j.map D.int/\τ=[some (.ref r),some (.int (bot pre 1)),x,some (.ref o.length),some (.int (gw dn 0)),y]/\dn++j=ups pre/\Gr A2 A') ?_ ?_ ?_ _ _ _ ⟨[],ups pre,none,rfl,rfl,rfl,Gr.refl⟩
 .rintro rest τ A' ⟨dn,j,y,_,_,_,g⟩
  exact g.get M
 .rintro v rest τ A' ⟨dn,j,y,e,rfl,hd,g⟩ Nx I
  cases j with
  |nil=>cases e
  |cons n j=>
   cases e;obtain⟨W,_⟩:=KI hok l (show n∈ups pre by rw[<-hd];simp);obtain⟨U,_⟩:=Ad dn 0 (Int.le_refl 0);refine⟨rfl,_,⟨_,_,rfl,U,ω,rfl⟩,λX h3=>?_⟩;refine I _ _ ⟨dn++[n],j,some (.int n),rfl,?_,by simpa using hd,g.trans h3⟩;rw[F1];rfl
 rintro τ X ⟨dn,j,y,e,rfl,hd,Y⟩;cases j with
 |cons p j=>cases e
 |nil=>
 have hd:dn=ups pre:=by simpa using hd
 subst hd;obtain⟨n0,z⟩:∃n,n∈ups pre:=by
  cases e:ups pre with
  |nil=>
   rw[e] at u;exact absurd (List.length_eq_zero_iff.mp u.symm) H
  |cons n r=>exact⟨n,θ⟩
 obtain⟨W,u1⟩:=KI hok l z;obtain⟨Z,d1⟩:=F0 (Int.le_refl 0) z W;have B:=Y.get M;refine d7 B ?_;refine iS (f:=λd=>match d with|.int n=>.int (n/gw (ups pre) 0)|d=>d) B _ _ (λd hd=>?_) (by simp;omega) ?_
 .obtain⟨n,hn,rfl⟩:=aM.mp hd
  exact⟨[.int n],rfl,λQ L=>⟨⟨Z,AJ Z (eB d1 u1)⟩,L⟩⟩
 have el:((ups pre).map D.int).map (λd=>match d with|.int n=>D.int (n/gw (ups pre) 0)|d=>d)=(lw pre).map D.int:=by
  unfold lw;rw[bK,bK];rfl
 rw[fC,el];have gg:Gr A X:=(J.trans g2).trans Y;exact q _ _ (gg.trans Gr.push) aE gg.len
theorem O8(T:TopD K mg "name_shares" Bx mZ)(b:mg "dict"=none)(a:aj P w K mg base 10 "shares" oz (ak mg 1 rm)):aj P w K mg base 11 "name_shares" mZ (ak mg 1 zh):=by
 refine bF T JX λg v o y nd=>⟨_,(ay (aN (ie (mD rfl) mH b nA (aa (eY (some 3) (own:=["way","name","share"]) (frees:=[]) (ix:=[]) rfl (cA (dL a g o (aa (vr 0) af))) (λc=>(oA rfl (gR (pG 0 (show(["way","name","share"]:List Str).Nodup by decide+kernel)) (gR (pG 1 (show(["way","name","share"]:List Str).Nodup by decide+kernel)) (gR (pG 2 (show(["way","name","share"]:List Str).Nodup by decide+kernel)) oB))))) (λc=>(bW (aa (vr 1) (aa (vr 2) af))))) af)))),λds A R h z=>?_⟩;obtain⟨m,rfl,s,hd,t,q⟩:=h;have hz:(1000:Nat)<=sizeLine:=δ
 refine⟨rfl,m,rfl,s,hd,λB C j h1 l1=>?_⟩;refine d7 h1 ?_;have ln:=m7 m "" 1;have nl:=iZ hd;refine iS (f:=λd=>match d with|.tup [_,n,x]=>.tup [n,x]|d=>d) h1 _ _ (λd hd=>?_) (by simp;omega) ?_
 .obtain⟨p,k,rfl⟩:=aM.mp hd
  exact⟨[.str p.1,.str p.2.1,fq p.2.2],rfl,λQ u=>⟨show 2<=sizeLine by decide,u⟩⟩
 have e:((bC m "" 1).map oE).map (λd=>match d with|.tup [_,n,x]=>D.tup [n,x]|d=>d)=(bC m "" 1).map wg:=by
  rw[bK];rfl
 rw[fC,e];refine u_ aE (AZ _) (by simp;omega) ?_;obtain⟨k1,k2⟩:=BE t;obtain⟨ns,n1,n2,n3⟩:=z8 ((bC m "" 1).map λp=>(p.2.1,fq p.2.2)) [] [] rfl oO;have l:((bC m "" 1).map λp=>(p.2.1,fq p.2.2)).map (·.1)=m.names:=by
  rw[bK,<-tG m "" 1];rfl
 rw[l] at n3;refine q _ _ _ ns ((j.trans Gr.push).trans Gr.push) aE (by have:=j.len;simp;omega) ⟨n1,n2,λn i=>?_⟩ (λn=>by rw[n3];simp);refine FO (λn=>fq (shr m n)) _ [] n (λp k=>?_) (.inl ?_)
 .obtain⟨r,g,rfl⟩:=aM.mp k
  show fq r.2.2=fq (shr m r.2.1);rw[<-k1 r g]
 .rw[l]
  have:=(n3 n).mp i;simpa using this
theorem O0(T:TopD K mg "least_weights" Jz w_)(b:mg "sorted"=none)(g:mg "tuple"=none)(i:mg "zip"=none)(a:aj P w K mg base 2 "least_whole" xg (ak mg 1 Dl)):aj P w K mg base 3 "least_weights" w_ (ak mg 1 Dm):=by
 refine bF T W5 λE J k F nd=>⟨_,(av (dS 1 nd (dI (zF rfl) zM b uw (aa (vr 0) af)))
  (ay (aN (Nn g i rfl (aa (vr 1) (aa (dL a E k (aa (eY none (own:=["name"]) (frees:=["fractions"]) (ix:=[0]) rfl (cA (vr 1)) (λc=>(pG 0 (show(["name","fractions"]:List Str).Nodup by decide+kernel))) (λc=>(dX F (vr 1) (vr 0)))) af)) af)))))),λds A R h L=>?_⟩
 obtain⟨r,kvs,ns,j,rfl,v,o,y,s,hok,q⟩:=h;have hz:(1000:Nat)<=sizeLine:=δ
 refine By v o.keys o.nd ω λys B l=>?_;have M:=pw_len ys ns B λx k=>(l x).mp k;refine d7 aE ?_;refine iS (f:=λd=>match d with|.str n=>fq (j n)|d=>d) aE _ _ (λd hd=>?_) (by simp;omega) ?_
 .obtain⟨n,u,rfl⟩:=aM.mp hd
  exact⟨[.str n],rfl,λQ G=>fm (getElem?_push v) rfl (o.get n ((l n).mp u)) G⟩
 have e:(ys.map D.str).map (λd=>match d with|.str n=>fq (j n)|d=>d)=(ys.map j).map fq:=by
  rw[bK,bK];rfl
 rw[fC,e];have m:ys≠[]:=λz=>by
  cases e:ns with
  |nil=>exact s e
  |cons n t=>
   have:=(l n).mpr (by rw[e];simp);rw[z] at this;cases this
 refine⟨rfl,_,ys.map j,rfl,aE,by simp;omega,λx k=>?_,by simpa using m,λN O C H _=>?_⟩
 .obtain⟨n,u,rfl⟩:=aM.mp k
  exact hok n ((l n).mp u)
 refine YY (C.get (getElem?_push aE)) H ?_;have I:(((ys.map D.str).zip ((lw (ys.map j)).map D.int)).map λp=>D.tup [p.1,p.2])=(ys.zip (lw (ys.map j))).map bH:=by
  rw[List.zip_map,bK];rfl
 rw[I];exact q _ ys (((Gr.push.trans Gr.push)).trans C) B l
theorem OV(T:TopD K mg "least" Jy w9){c:Addr}(d:mg "Never"=some (.ref c))(f:excIn K c jW "ValueError.__new__"=true)(j:aj P w K mg base 11 "bar" ou (ak mg 1 rj))(b:aj P w K mg base 11 "name_shares" mZ (ak mg 1 zh))(a:aj P w K mg base 3 "least_weights" w_ (ak mg 1 Dm)):aj P w K mg base 12 "least" w9 (ak mg 1 Di):=by
 refine bF T W4 λv H g Q nd=>⟨_,(av (bJ (qk (dL j v g (aa (vr 0) af)) jP) (ay (jr H rfl d f (aa bE af))) bM)
  (ay (aN (dL a v g (aa (dL b v g (aa (vr 0) af)) af))))),λds A R h S=>?_⟩
 obtain⟨m,rfl,B,hd,q⟩:=h;refine⟨rfl,m,rfl,B,hd,λI E=>?_⟩;cases o:cP [] (bC m "" 1) with
 |some p=>
  have k:=q I E;rw[ao (by rw[o];simp)] at k;exact⟨δ,k⟩
 |none=>
  refine⟨rfl,m,rfl,B,hd,o,λU V kvs ns J h2 l2 F s=>?_⟩;have nl:=iZ hd;have l1:ns.length<=m.names.length:=by
   have key:∀(xs ys:List Str),xs.Nodup->(∀x∈xs,x∈ys)->xs.length<=ys.length:=by
    intro xs;induction xs with
    |nil=>intro ys _ _;exact bQ _
    |cons x r L=>
     intro ys C G;have l:=iK.mp C;have g:=G x (aT ..);have:=L (ys.erase x) l.2 λy u=>(t_ (λz=>l.1 (by rw[<-z];exact u))).mpr (G y (bq _ u));rw[tY g] at this;have:=qv g;simp;omega
   exact key ns m.names F.nd λx g=>(s x).mp g
  have D:ns≠[]:=λz=>by
   have i:=aX.oh m;cases e:m.names with
   |nil=>rw[e] at i;simp at i
   |cons n t=>
    have:=(s n).mpr (by rw[e];simp);rw[z] at this;cases this
  refine⟨rfl,_,kvs,ns,shr m,rfl,h2,F,ω,D,λn C=>(xO B.arms hd o ((s n).mp C)).w,λM ys N O u=>?_⟩;have k:=q M ((E.trans J).trans N);rw[aA o] at k;exact k ys O λx=>by rw[u,s]
end My
namespace DP
open L2 MA
abbrev Tb:=List (Str×Rat)
abbrev bz:=Nat×Str×Str
abbrev aS:=List (Str×List bz)
noncomputable def cB(s:bz):D:=.tup [.int ((s.1:Nat):Int),.str s.2.1,.str s.2.2]
noncomputable def aH(T:Tb):List Str:=T.map (·.1)
noncomputable def b_(T:Tb):List (Key×D):=T.map λp=>((Sum.inr p.1:Key),fq p.2)
noncomputable def dz(T:Tb)(n:Str):Rat:=match T.find? (λp=>decide (p.1=n)) with
 |some p=>p.2
 |none=>0
noncomputable def gS(n:Str)(p:Tb×Nat):List bz:=if n∈aH p.1 then (aH p.1).map (λo=>(p.2,n,o)) else []
noncomputable def d9(Ts:List Tb)(n:Str):List bz:=Ts.zipIdx.flatMap (gS n)
noncomputable def cJ(P:aS)(n:Str):List bz:=match P.find? (λp=>decide (p.1=n)) with
 |some p=>p.2
 |none=>[]
noncomputable def aC(P:aS):List Str:=P.map (·.1)
noncomputable def cz(P:aS)(s:bz):aS:=if s.2.2∈aC P then P else P++[(s.2.2,cJ P s.2.1++[s])]
noncomputable def dN(Ts:List Tb):Nat->Nat->aS->aS
 |0,_,P=>P
 |f+1,i,P=>match P[i]? with
  |some p=>dN Ts f (i+1) ((d9 Ts p.1).foldl cz P)
  |none=>P
noncomputable def aO(Ts:List Tb)(n:Str):aS:=dN Ts 14 0 [(n,[])]
structure jM(T:Tb):Prop where
 nd:(aH T).Nodup
 ne:T≠[]
 len:T.length<=32
 PF:∀p∈T,iN p.2
structure eV(Ts:List Tb)(NN:List Str):Prop where
 len:Ts.length<=7
 tok:∀T∈Ts,jM T
 nn:NN.length<=12
 sub:∀T∈Ts,∀n∈aH T,n∈NN
theorem Ae:∀(T:Tb) (n:Str),br (b_ T) (Sum.inr n)=(T.find? (λp=>decide (p.1=n))).map (λp=>fq p.2)
 |[],n=>rfl
 |p::T,n=>by
  show(if (Sum.inr p.1:Key)=Sum.inr n then some (fq p.2) else br (b_ T) (Sum.inr n))=_;by_cases h:p.1=n
  .rw[aA (by rw[h]),List.find?_cons_of_pos (by simpa using h)]
   rfl
  .rw[ao (λz=>h (Sum.inr.inj z)),List.find?_cons_of_neg (by simpa using h)]
   exact Ae T n
theorem find_some{β:Type}{T:List (Str×β)}{n:Str}:(T.find? (λp=>decide (p.1=n))).isSome=decide (n∈T.map (·.1)):=by
 rw[kQ,List.find?_isSome,nC];constructor
 .rintro ⟨p,a,h⟩
  rw[<-gD h];exact cX a
 .intro h
  obtain⟨p,a,e⟩:=aM.mp h;exact⟨p,a,eL e⟩
theorem F3(T:Tb)(n:Str):(br (b_ T) (Sum.inr n)).isSome=decide (n∈aH T):=by
 rw[Ae,isSome_map];exact find_some
theorem F4{T:Tb}{n:Str}(h:n∈aH T):br (b_ T) (Sum.inr n)=some (fq (dz T n)):=by
 have:=find_some (T:=T) (n:=n);rw[eL (show n∈T.map (·.1) from h)] at this;obtain⟨p,a⟩:=qq.mp this;rw[Ae,a];unfold dz;rw[a];rfl
theorem RZ(T:Tb):(b_ T).map (·.1)=(aH T).map Sum.inr:=by
 unfold b_ aH;rw[bK,bK];rfl
theorem GJ(T:Tb):((b_ T).map λp=>keyOf p.1)=(aH T).map D.str:=by
 unfold b_ aH;rw[bK,bK];rfl
theorem m8{T:Tb}(h:jM T){n:Str}(b:n∈aH T):iN (dz T n):=by
 have:=find_some (T:=T) (n:=n);rw[eL (show n∈T.map (·.1) from b)] at this;obtain⟨p,a⟩:=qq.mp this;unfold dz;rw[a];exact h.PF p (ni a)
theorem rD(P:aS)(s:bz):∀n,n∈aC (cz P s)↔n∈aC P\/n=s.2.2:=λn=>by
 unfold cz;split
 .rename_i h
  constructor
  .exact .inl
  .rintro (h'|rfl)
   .exact h'
   .exact h
 .simp[aC]
theorem LN{P:aS}(s:bz)(h:(aC P).Nodup):(aC (cz P s)).Nodup:=by
 unfold cz;split
 .exact h
 .rename_i d
  unfold aC;rw[dP,oM];refine⟨h,θ,λa e b c=>?_⟩;simp at c;rw[c];exact λz=>d (by rw[<-z];exact e)
theorem jS:∀(xs ys:List Str),xs.Nodup->(∀x∈xs,x∈ys)->xs.length<=ys.length:=by
 intro xs;induction xs with
 |nil=>intro ys _ _;exact bQ _
 |cons x r e=>
  intro ys f b;have a:=iK.mp f;have c:=b x (aT ..);have:=e (ys.erase x) a.2 λy d=>(t_ (λz=>a.1 (by rw[<-z];exact d))).mpr (b y (bq _ d));rw[tY c] at this;have:=qv c;simp;omega
theorem n9{Ts:List Tb}{n:Str}{s:bz}:s∈d9 Ts n↔∃T,Ts[s.1]?=some T/\n∈aH T/\s.2.1=n/\s.2.2∈aH T:=by
 unfold d9;rw[gz];constructor
 .rintro ⟨⟨T,i⟩,b,a⟩
  have b:=uu.mp b;unfold gS at a;split at a
  .rename_i c
   obtain⟨o,d,rfl⟩:=aM.mp a;exact⟨T,b,c,rfl,d⟩
  .cases a
 .rintro ⟨T,f,c,e,d⟩
  refine⟨(T,s.1),uu.mpr f,?_⟩;unfold gS;rw[aA c];exact aM.mpr ⟨s.2.2,d,by rw[<-e]⟩
theorem z7:∀(ss:List bz) (P:aS) (n:Str),n∈aC (ss.foldl cz P)↔n∈aC P\/n∈ss.map (·.2.2)
 |[],P,n=>by simp
 |s::ss,P,n=>by
  rw[gX,z7 ss,rD];simp[or_assoc]
theorem LO(P:aS)(s:bz):∃X,cz P s=P++X:=by
 unfold cz;split
 .exact⟨[],θ⟩
 .exact⟨_,rfl⟩
theorem vC:∀(ss:List bz) (P:aS),∃X,ss.foldl cz P=P++X
 |[],P=>⟨[],θ⟩
 |s::ss,P=>by
  obtain⟨X,e⟩:=LO P s;obtain⟨Y,a⟩:=vC ss (cz P s);exact⟨X++Y,by rw[gX,a,e,List.append_assoc]⟩
def TabAt(A:Ar)(t:Nat)(T:Tb):Prop:=A[t]?=some (.dct (b_ T))\/∃o,A[t]?=some (.bw o (b_ T))
noncomputable def TabsAt(A:Ar):List Nat->List Tb->Prop
 |[],[]=>True
 |t::ts,T::Ts=>TabAt A t T/\TabsAt A ts Ts
 |_,_=>False
def iw(A:Ar)(r:Nat)(Ts:List Tb):Prop:=∃ts,A[r]?=some (.lst (ts.map D.ref))/\TabsAt A ts Ts
theorem TabAt.gr{A B:Ar}{t:Nat}{T:Tb}(h:TabAt A t T)(g:Gr A B):TabAt B t T:=by
 rcases h with h|⟨o,h⟩
 .exact .inl (g.get h)
 .exact .inr ⟨o,g.get h⟩
theorem TabsAt.gr{A B:Ar}(g:Gr A B):∀{a:List Nat} {Ts:List Tb},TabsAt A a Ts->TabsAt B a Ts
 |[],[],_=>trivial
 |t::a,T::Ts,h=>⟨h.1.gr g,TabsAt.gr g h.2⟩
 |[],_::_,h=>h.elim
 |_::_,[],h=>h.elim
theorem TabsAt.len{A:Ar}:∀{a:List Nat} {Ts:List Tb},TabsAt A a Ts->a.length=Ts.length
 |[],[],_=>rfl
 |t::a,T::Ts,h=>by simp[TabsAt.len h.2]
 |[],_::_,h=>h.elim
 |_::_,[],h=>h.elim
theorem TabsAt.get{A:Ar}:∀{a:List Nat} {Ts:List Tb} {i t:Nat},TabsAt A a Ts->a[i]?=some t->∃T,Ts[i]?=some T/\TabAt A t T
 |[],[],i,t,_,e=>by simp at e
 |t::a,T::Ts,0,_,h,e=>by
  simp at e;subst e;exact⟨T,rfl,h.1⟩
 |t::a,T::Ts,i+1,_,h,e=>by
  obtain⟨b,h1,h2⟩:=TabsAt.get (i:=i) h.2 (by simpa using e);exact⟨b,by simpa using h1,h2⟩
 |[],_::_,_,_,h,_=>h.elim
 |_::_,[],_,_,h,_=>h.elim
theorem iw.gr{A B:Ar}{r:Nat}{Ts:List Tb}(h:iw A r Ts)(g:Gr A B):iw B r Ts:=by
 obtain⟨a,h1,h2⟩:=h;exact⟨a,g.get h1,h2.gr g⟩
theorem FP{τ:bO}{A:Ar}{j t:Nat}{ix:List Nat}{te:aP}{R:DK}{T:Tb}(f:D->D)(g:lk τ j=some (.ref t))(l:TabAt A t T)(v:T.length<=1000)
  (b:∀A':Ar,∀o∈aH T,∀Q:DK,Q (f (.str o)) A'->te ([some (.str o)]++ix.map (lk τ)) A' Q)(k:R (.ref A.length) (A++[.lst ((aH T).map λo=>f (.str o))])):EE (mG none ix (sd (h_ j)) oH te) τ A R:=by
 have hz:(1000:Nat)<=sizeLine:=δ
 have c:(aH T).length=T.length:=by simp[aH]
 have em:((b_ T).map λp=>keyOf p.1)=(aH T).map D.str:=GJ T;have go:∀(A':Ar) (o:Obj) (d:DK),A'[t]?=some (.bw o (b_ T))->d (.ref A'.length) (A'++[.lst ((aH T).map λo=>f (.str o))])->mG none ix (sd (h_ j)) oH te τ A' d:=λA' o d h' m=>by
  unfold mG sd h_;rw[g];refine pZ h' ?_;rw[em];refine iS (f:=f) h' _ _ (λx q=>?_) (by simp[c];omega) ?_
  .obtain⟨n,r,rfl⟩:=aM.mp q
   exact⟨[.str n],rfl,λQ s=>b A' n r Q s⟩
  .rw[fC,bK]
   exact m
 rcases l with h|⟨o,h⟩
 .have a:=cy h
  refine .inl ⟨t,b_ T,h,λo=>go _ o _ (eF a) ⟨b_ T,?_,?_⟩⟩
  .rw[iu (by simpa using a)]
   exact eF a
  .have e:(A.set t (.bw o (b_ T))++[C.lst ((aH T).map λo=>f (.str o))]).set t (.dct (b_ T))=A++[.lst ((aH T).map λo=>f (.str o))]:=by
    rw[yj _ _ (by simpa using a),set_set];congr 1;refine qN λi=>?_;by_cases hi:i=t
    .rw[hi,eF a,h]
    .rw[eE (Ne.symm hi)]
   rw[e];have u:(A.set t (C.bw o (b_ T))).length=A.length:=θ
   rw[u];exact k
 .exact .inr (go A o R h k)
def DH:Ct:=λds A R _=>∃r n Ts,ds=[.ref r,.str n]/\iw A r Ts/\Ts.length<=7/\(∀T∈Ts,T.length<=32)/\∀A' q,Gr A A'->A'[q]?=some (.lst ((d9 Ts n).map cB))->A.length<=q->R (.ref q) A'
theorem pO(ds:List D):(iF ds).length=ds.length:=by simp[iF]
theorem Fw{ds:List D}{i:Nat}{x:D}(h:ds[i]?=some x):(iF ds)[i]?=some (.tup [.int ((i:Nat):Int),x]):=by
 unfold iF;rw[ck,Cr,h];simp
theorem KS{Ts:List Tb}{i:Nat}{T:Tb}(h:Ts[i]?=some T):Ts.zipIdx.take (i+1)=Ts.zipIdx.take i++[(T,i)]:=by
 rw[take_succ,Cr,h];simp
theorem XX(n:Str)(p:Tb×Nat)(h:p.1.length<=32):(gS n p).length<=32:=by
 unfold gS;split
 .simp[aH];exact h
 .simp
theorem FH(n:Str):∀(l:List (Tb×Nat)),(∀p∈l,p.1.length<=32)->(l.flatMap (gS n)).length<=32*l.length
 |[],_=>by simp
 |p::l,h=>by
  have h1:=FH n l λq a=>h q (bq _ a);have h2:=XX n p (h p (aT ..));rw[qP,cM,gm];omega
end DP
namespace My
open L2 DP MA
theorem Pq(T:TopD K mg "steps_from" JP xy)(a:mg "enumerate"=none):aj P w K mg base 1 "steps_from" xy (ak mg 2 DH):=by
 refine bF T Xj λO S U E nd=>⟨_,(av (dS 2 nd (cE af))
  (av (eH dM rfl (E9 a (aa (vr 0) af)) (ku rfl (dB (dG 3 nd) (dB (dG 4 nd) kB))) (ay (bJ (YE E (vr 1) (vr 4)) (ay (c7 (gM gV yk yr v7 u5 (vr 2) (aa (vd (eY none (own:=["other"]) (frees:=["place","name"]) (ix:=[3,1]) rfl (nN (vr 4)) (λc=>(pG 0 (show(["other","place","name"]:List Str).Nodup by decide+kernel))) (λc=>(bW (aa (vr 1) (aa (vr 2) (aa (vr 0) af))))))) af)))) bM)))
  (ay (aN (vr 2))))),λds A R h V=>?_⟩
 obtain⟨r,n,Ts,rfl,F,W,f,q⟩:=h;obtain⟨b,h1,h2⟩:=F;have hz:(1000:Nat)<=sizeLine:=δ
 have m:=h2.len;have len:∀i,((Ts.zipIdx.take i).flatMap (gS n)).length<=224:=λi=>by
  have:=FH n (Ts.zipIdx.take i) λp G=>by
   have:=uu.mp (qy G);exact f _ (cS this)
  rw[kR,yd] at this;omega
 refine⟨bQ _,Av (getElem?_push h1) ?_⟩;refine eG (λrest τ A'=>∃(i:Nat) (x y:Option D),i<=b.length/\rest=(iF (b.map D.ref)).drop i/\τ=[some (.ref r),some (.str n),some (.ref A.length),x,y]/\A'[A.length]?=some (.lst (((Ts.zipIdx.take i).flatMap (gS n)).map cB))/\Gr A A') ?_ ?_ ?_ _ _ _ ⟨0,none,none,bQ _,rfl,rfl,aE,Gr.push⟩
 .rintro rest τ A' ⟨i,x,y,_,_,_,_,g⟩
  exact g.get h1
 .rintro v rest τ H ⟨i,x,y,hi,e,rfl,hc,g⟩ X z
  by_cases j:i<b.length
  .obtain⟨t,B⟩:∃t,b[i]?=some t:=⟨b[i],a_ j⟩
   obtain⟨T,C,I⟩:=h2.get B;have k:=I.gr g;have d:i<(iF (b.map D.ref)).length:=by rw[pO,aK];exact j
   have ev:=Fw (ds:=b.map D.ref) (i:=i) (x:=.ref t) (by rw[ck,B];rfl);rw[lY d] at e;rw[a_ d] at ev;have ev:=Option.some.inj ev;rw[ev] at e;cases e;have l:∀L,L=gS n (T,i)->((Ts.zipIdx.take (i+1)).flatMap (gS n))=((Ts.zipIdx.take i).flatMap (gS n))++L:=λL J=>by
    rw[KS C,qO,J];simp
   have ln:=len i;refine⟨rfl,Gu k rfl ?_⟩;rw[ao bU,F3];refine cD (λc=>?_) (λc=>?_)
   .have s:gS n (T,i)=(aH T).map (λo=>(i,n,o)):=by unfold gS;rw[aA c]
    have M:=f T (cS C);have u:(aH T).length=T.length:=by simp[aH]
    refine⟨gx hc,FP (λo=>.tup [.int ((i:Nat):Int),.str n,o]) rfl k ω (λA' o Y Q N=>⟨show 3<=sizeLine by omega,N⟩) ?_⟩;refine vB (getElem?_push hc) aE (by rw[aK,aK,u];omega) ?_;have em:((aH T).map λo=>D.tup [.int ((i:Nat):Int),.str n,.str o])=(gS n (T,i)).map cB:=by
     rw[s,bK];rfl
    refine z _ _ ⟨i+1,_,_,ω,rfl,rfl,?_,(g.trans Gr.push).set (aF _)⟩;rw[l _ rfl,dP,em];exact get_set (getElem?_push hc)
   .have s:gS n (T,i)=[]:=by unfold gS;rw[ao c]
    refine z _ _ ⟨i+1,_,_,ω,rfl,rfl,?_,g⟩;rw[l _ rfl,s,lX];exact hc
  .rw[qK (by rw[pO,aK];omega)] at e
   cases e
 .rintro τ H ⟨i,x,y,hi,e,rfl,hc,g⟩
  have hi:i=b.length:=by
   have:=cj List.length e;simp[pO] at this;omega
  rw[hi,m,qD (by rw[yd];exact aF _)] at hc;exact q _ _ g hc (aF _)
end My
namespace DP
open L2 MA
theorem GV{P X:aS}{n:Str}(h:n∈aC P):cJ (P++X) n=cJ P n:=by
 have:=find_some (T:=P) (n:=n);rw[eL (show n∈P.map (·.1) from h)] at this;obtain⟨p,a⟩:=qq.mp this;unfold cJ;rw[find?_append,a];rfl
theorem Sm{P:aS}{n:Str}{l:List bz}(h:n∉aC P):cJ (P++[(n,l)]) n=l:=by
 have:=find_some (T:=P) (n:=n);rw[gu (show ¬n∈P.map (·.1) from h)] at this;have e:P.find? (λp=>decide (p.1=n))=none:=by
  cases e:P.find? (λp=>decide (p.1=n)) with
  |none=>rfl
  |some p=>rw[e] at this;cases this
 unfold cJ;rw[find?_append,e];simp
theorem kG{P:aS}{n:Str}(h:n∈aC P):(n,cJ P n)∈P:=by
 have:=find_some (T:=P) (n:=n);rw[eL (show n∈P.map (·.1) from h)] at this;obtain⟨p,a⟩:=qq.mp this;have h1:=ni a;have h2:=find?_some a;unfold cJ;rw[a];have h2:p.1=n:=gD h2;rw[<-h2];exact h1
def nG(b:Nat)(A:Ar)(P:aS):Prop:=∃kvs,A[b+1]?=some (.dct kvs)/\A[b+2]?=some (.lst ((aC P).map D.str))/\kvs.map (·.1)=(aC P).map Sum.inr/\∀n∈aC P,∃a,a≠b+2/\b<=a/\br kvs (Sum.inr n)=some (.ref a)/\A[a]?=some (.lst ((cJ P n).map cB))
structure fV(P:aS)(NN:List Str):Prop where
 nd:(aC P).Nodup
 sub:∀n∈aC P,n∈NN
 pl:∀p∈P,p.2.length+1<=P.length
theorem fV.len{P:aS}{NN:List Str}(h:fV P NN):P.length<=NN.length:=by
 have:=jS (aC P) NN h.nd h.sub;simpa[aC] using this
theorem fV.add{P:aS}{NN:List Str}(h:fV P NN){s:bz}(h1:s.2.1∈aC P)(h2:s.2.2∈NN):fV (cz P s) NN:=by
 refine⟨LN s h.nd,λn a=>?_,λp hp=>?_⟩
 .rcases (rD P s n).mp a with h'|rfl
  .exact h.sub n h'
  .exact h2
 .unfold cz at hp ⊢
  split at hp
  .rename_i hc
   rw[aA hc];exact h.pl p hp
  .rename_i hc
   rw[ao hc,cM];rcases bX.mp hp with hp|hp
   .have:=h.pl p hp
    simp;omega
   .rw[bI.mp hp]
    have:=h.pl _ (kG h1);simp at this ⊢;omega
def gJ(lo:Nat)(A:Ar)(q:Nat)(P:aS):Prop:=lo<=q/\∃kvs,A[q]?=some (.dct kvs)/\kvs.map (·.1)=(aC P).map Sum.inr/\∀n∈aC P,∃a,lo<=a/\br kvs (Sum.inr n)=some (.ref a)/\A[a]?=some (.lst ((cJ P n).map cB))
theorem gJ.gr{A B:Ar}{lo q:Nat}{P:aS}(h:gJ lo A q P)(g:Gr A B):gJ lo B q P:=by
 obtain⟨h0,kvs,h1,h2,b⟩:=h;exact⟨h0,kvs,g.get h1,h2,λn c=>by obtain⟨a,z,x,y⟩:=b n c;exact⟨a,z,x,g.get y⟩⟩
theorem gJ.set{A:Ar}{lo q t:Nat}{P:aS}{c:C}(h:gJ lo A q P)(g:t<lo):gJ lo (A.set t c) q P:=by
 obtain⟨h0,kvs,h1,h2,e⟩:=h;have b:∀(j:Nat) (d:C),lo<=j->A[j]?=some d->(A.set t c)[j]?=some d:=λj d i hd=>by
  rw[eE ω];exact hd
 exact⟨h0,kvs,b _ _ h0 h1,h2,λn f=>by obtain⟨a,z,x,y⟩:=e n f;exact⟨a,z,x,b _ _ z y⟩⟩
theorem gJ.lo{A:Ar}{lo b q:Nat}{P:aS}(h:gJ lo A q P)(e:b<=lo):gJ b A q P:=by
 obtain⟨h0,kvs,h1,h2,c⟩:=h;exact⟨ω,kvs,h1,h2,λn d=>by obtain⟨a,z,x,y⟩:=c n d;exact⟨a,ω,x,y⟩⟩
theorem nG.gr{A B:Ar}{b:Nat}{P:aS}(h:nG b A P)(g:Gr A B):nG b B P:=by
 obtain⟨kvs,h1,h2,c,d⟩:=h;exact⟨kvs,g.get h1,g.get h2,c,λn e=>by obtain⟨a,z,f,x,y⟩:=d n e;exact⟨a,z,f,x,g.get y⟩⟩
theorem sA{kvs:List (Key×D)}{ns:List Str}{n:Str}(h:kvs.map (·.1)=ns.map Sum.inr):(br kvs (Sum.inr n)).isSome=decide (n∈ns):=by
 induction kvs generalizing ns with
 |nil=>
  cases ns with
  |nil=>rfl
  |cons _ _=>cases h
 |cons p kvs a=>
  cases ns with
  |nil=>cases h
  |cons m ns=>
   rw[cK,cK,List.cons.injEq] at h;show(if p.1=Sum.inr n then some p.2 else br kvs (Sum.inr n)).isSome=_;rw[h.1];by_cases e:m=n
   .rw[aA (by rw[e])]
    simp[e]
   .rw[ao (λz=>e (Sum.inr.inj z)),a h.2]
    simp[Ne.symm e]
theorem rG{Ts:List Tb}{f i:Nat}{P:aS}{p:Str×List bz}(h:P[i]?=some p):dN Ts (f+1) i P=dN Ts f (i+1) ((d9 Ts p.1).foldl cz P):=by
 show(match P[i]? with|some p=>dN Ts f (i+1) ((d9 Ts p.1).foldl cz P)|none=>P)=_;rw[h]
theorem L1{Ts:List Tb}{f i:Nat}{P:aS}(h:P.length<=i):dN Ts f i P=P:=by
 cases f with
 |zero=>rfl
 |succ f=>
  show(match P[i]? with|some p=>dN Ts f (i+1) ((d9 Ts p.1).foldl cz P)|none=>P)=_;rw[o6 h]
def zj:Ct:=λds A R _=>∃r n Ts NN,ds=[.ref r,.str n]/\iw A r Ts/\eV Ts NN/\n∈NN/\∀A' q,Gr A A'->gJ A.length A' q (aO Ts n)->R (.ref q) A'
theorem gi{A:Ar}{i j:Nat}{c d:C}(a:i≠j)(h:A[j]?=some d):(A.set i c)[j]?=some d:=by
 rw[eE a];exact h
theorem tF{A:Ar}{i:Nat}{c d:C}(h:A[i]?=some d):(A.set i c)[i]?=some c:=eF (cy h)
theorem RP{kvs:List (Key×D)}{ns:List Str}{n:Str}{v:D}(h:kvs.map (·.1)=ns.map Sum.inr)(a:n∉ns):(b5 kvs (Sum.inr n) v).map (·.1)=(ns++[n]).map Sum.inr:=by
 rw[Bj (λp b z=>?_)]
 .simp[h]
 .have:p.1∈kvs.map (·.1):=cX b
  rw[h,z] at this;obtain⟨m,c,e⟩:=aM.mp this;rw[<-Sum.inr.inj e] at a;exact a c
end DP
namespace My
open L2 DP MA
theorem Pc(T:TopD K mg "paths_from" JG xq)(u:mg "len"=none)(d:aj P w K mg base 1 "steps_from" xy (ak mg 2 DH)):aj P w K mg base 2 "paths_from" xq (ak mg 2 zj):=by
 refine bF T Xb λhr hR hx t nd=>⟨_,(av (dS 2 nd (EW (vr 1) (cE af)))
  (av (dS 3 nd (cE (aa (vr 1) af)))
  (av (dS 4 nd ai)
  (av (zX dM (BU (vr 4) (dI iQ ia u jg (aa (vr 3) af))) (av (eH dM rfl (cA (dL d hr hx (aa (vr 0) (aa (dX t (vr 3) (vr 4)) af)))) (dG 5 nd) (ay (bJ (ql t (dX t (vr 5) ai) (vr 2)) (av (vq t (vr 2) (dX t (vr 5) ai) (c6 (dX t (vr 2) (dX t (vr 5) ai)) (cE (aa (vr 5) af))) rfl)
  (ay (c7 (gM gV jC jE iY jq (vr 3) (aa (dX t (vr 5) ai) af))))) bM)))
  (ay (NH (i:=4) nd rfl (by first|exact Or.inl rfl|exact Or.inr rfl) ai))))
  (ay (aN (vr 2))))))),λds A R h hl=>?_⟩
 obtain⟨r,n,Ts,NN,rfl,hB,hok,hn,q⟩:=h;have hz:(1000:Nat)<=sizeLine:=δ
 have e1:(A++[C.lst []]).length=A.length+1:=θ
 have e2:(A++[C.lst []]++[C.dct [(Sum.inr n,D.ref A.length)]]).length=A.length+2:=θ
 refine⟨bQ _,show 1<=sizeLine by omega,?_⟩;have nU:nG A.length (A++[C.lst []]++[C.dct [(Sum.inr n,D.ref A.length)]]++[C.lst [D.str n]]) [(n,[])]:=by
  refine⟨[(Sum.inr n,D.ref A.length)],?_,?_,rfl,λm hm=>⟨A.length,ω,aF _,?_,?_⟩⟩
  .rw[<-e1];exact getElem?_push aE
  .rw[<-e2];exact aE
  .have:m=n:=by simpa[aC] using hm
   subst this;exact aA rfl
  .have:m=n:=by simpa[aC] using hm
   subst this;have e:cJ [(m,[])] m=[]:=by simp[cJ]
   rw[e];exact getElem?_push (getElem?_push aE)
 refine⟨λk τ A'=>∃(i:Nat) (Q:aS) (x:Option D),k=13 - i/\τ=[some (.ref r),some (.str n),some (.ref (A++[C.lst []]).length),some (.ref (A++[C.lst []]++[C.dct [(Sum.inr n,D.ref A.length)]]).length),some (.int ((i:Nat):Int)),x]/\i<=Q.length/\nG A.length A' Q/\fV Q NN/\dN Ts (14 - i) i Q=aO Ts n/\Gr A A',⟨13,0,[(n,[])],none,rfl,rfl,θ,nU,⟨by simp[aC],λm hm=>by
   have:m=n:=by simpa[aC] using hm
   rw[this];exact hn,λp J=>by
   have:p=(n,[]):=by simpa using J
   rw[this];simp⟩,rfl,((Gr.push.trans Gr.push).trans Gr.push)⟩,?_⟩
 rw[e1,e2];rintro k τ A1 ⟨i,Q,x,rfl,rfl,hi,hS,hP,hb,Y⟩;have R4:Q.length<=12:=cC hP.len hok.nn;obtain⟨L,hd0,B,hk0,hv0⟩:=id hS;refine vR B ?_;have M:((aC Q).map D.str).length=Q.length:=by simp[aC]
 refine cD (λc=>?_) (λc=>?_)
 .rw[M] at c
  have c:i<Q.length:=ω
  obtain⟨p,J⟩:∃p,Q[i]?=some p:=⟨Q[i],a_ c⟩;have QJ:p.1∈aC Q:=cX (cS J);refine⟨λτ A'=>∃(G:aS) (x:Option D),τ=[some (.ref r),some (.str n),some (.ref (A.length+1)),some (.ref (A.length+2)),some (.int ((i+1:Nat):Int)),x]/\i+1<=G.length/\nG A.length A' G/\fV G NN/\dN Ts (14 - (i+1)) (i+1) G=aO Ts n/\Gr A A',λbx A' ⟨G,x,h1,h2,N,h4,h5,h6⟩=>⟨13 - (i+1),ω,i+1,G,x,rfl,h1,h2,N,h4,h5,h6⟩,?_⟩;refine kF B (v:=.str p.1) (mC (by rw[ck];unfold aC;rw[ck,J];rfl)) ?_;refine⟨rfl,r,p.1,Ts,rfl,hB.gr Y,hok.len,λT hT=>(hok.tok T hT).len,λA2 Z g2 h2 l2=>?_⟩;have gl:=Y.len;have lr:=cy B;refine d7 h2 ?_;refine eG (λrest τ A'=>∃(dn b:List bz) (x:Option D),rest=b.map cB/\dn++b=d9 Ts p.1/\τ=[some (.ref r),some (.str n),some (.ref (A.length+1)),some (.ref (A.length+2)),some (.int ((i:Nat):Int)),x]/\nG A.length A' (dn.foldl cz Q)/\fV (dn.foldl cz Q) NN/\A'[Z]?=some (.lst ((d9 Ts p.1).map cB))/\Gr A A') ?_ ?_ ?_ _ _ _ ⟨[],d9 Ts p.1,x,rfl,rfl,rfl,hS.gr g2,hP,h2,Y.trans g2⟩
  .rintro rest τ A' ⟨dn,b,x,_,_,_,_,_,h,_⟩
   exact h
  .rintro v rest τ O ⟨dn,b,x,e,g,rfl,s,j,N,g3⟩ Nx hN
   cases b with
   |nil=>cases e
   |cons st b=>
   cases e;have hst:st∈d9 Ts p.1:=by rw[<-g];simp
   obtain⟨T,hT,hn1,hn2,QG⟩:=n9.mp hst;obtain⟨kvs,hd,S,hk,hv⟩:=id s;have f:(dn++[st]).foldl cz Q=cz (dn.foldl cz Q) st:=by rw[nD];rfl
   generalize Qp:dn.foldl cz Q=l at*
   have E:st.2.1∈aC l:=by
    rw[<-Qp,z7,hn2];exact .inl QJ
   have Wb:st.2.2∈NN:=hok.sub T (cS hT) _ QG;have l3:l.length<=12:=cC j.len hok.nn;refine iG hd rfl ?_;rw[aA rfl,sA hk];refine cN (λH=>?_) (λH=>?_)
   .obtain⟨a1,na,Z3,ga,ha⟩:=hv _ E
    refine fm hd rfl ga ?_;have hpl:=j.pl _ (kG E);simp at hpl;refine⟨show 1<=sizeLine by omega,iR (getElem?_push ha) aE (by simp;omega) ?_⟩;have ZY:kvs.length=l.length:=by
     have:=cj List.length hk;simpa[aC] using this
    refine xG (getElem?_push (getElem?_push hd)) rfl ω ?_;have U:=getElem?_push (T:=[C.lst ((cJ l st.2.1).map cB++[cB st])]) (getElem?_push (T:=[C.lst [cB st]]) S);have hd2:=getElem?_push (T:=[C.lst ((cJ l st.2.1).map cB++[cB st])]) (getElem?_push (T:=[C.lst [cB st]]) hd);have o:=gi (i:=A.length+1) (c:=C.dct (b5 kvs (Sum.inr st.2.2) (D.ref (O++[C.lst [cB st]]).length))) ω U;refine⟨gx o,iP o (by simp[aC];omega) ?_⟩;have Z9:A1.length<=Z:=l2;have nq:A.length+2≠Z:=ω
    have Tt:A.length+1≠Z:=ω
    have I:cz l st=l++[(st.2.2,cJ l st.2.1++[st])]:=by unfold cz;rw[ao H]
    have ek:aC (cz l st)=aC l++[st.2.2]:=by rw[I];simp[aC]
    refine hN _ _ ⟨dn++[st],b,_,rfl,by simpa using g,rfl,?_,?_,?_,?_⟩
    .rw[f]
     refine⟨_,gi ω (tF hd2),?_,?_,λm hm=>?_⟩
     .rw[ek,dP]
      exact tF o
     .rw[ek]
      exact RP hk H
     .rw[ek] at hm
      have la:(O++[C.lst [cB st]]).length=O.length+1:=θ
      have Z2:=cy S;rcases bX.mp hm with hm|hm
      .obtain⟨a,V,W,PY,F⟩:=hv m hm
       have hne:¬(Sum.inr st.2.2:Key)=Sum.inr m:=λz=>H (by rw[Sum.inr.inj z];exact hm);refine⟨a,V,W,by rw[pU,ao hne];exact PY,?_⟩;rw[I,GV hm];have hd':A.length+1≠a:=λz=>by rw[<-z,hd] at F;cases F
       exact gi (Ne.symm V) (gi hd' (getElem?_push (getElem?_push F)))
      .have hm:m=st.2.2:=by simpa using hm
       subst hm;refine⟨(O++[C.lst [cB st]]).length,ω,ω,by rw[pU,aA rfl],?_⟩;rw[I,Sm H,dP];exact gi ω (gi ω aE)
    .rw[f]
     exact j.add E Wb
    .exact gi nq (gi Tt (getElem?_push (getElem?_push N)))
    .exact((((g3.trans Gr.push).trans Gr.push).set ω).set ω)
   .have I:cz l st=l:=by unfold cz;rw[aA H]
    refine hN _ _ ⟨dn++[st],b,_,rfl,by simpa using g,rfl,?_,?_,N,g3⟩
    .rw[f,I];exact s
    .rw[f,I];exact j
  .rintro τ O ⟨dn,b,x,e,g,rfl,s,j,N,g3⟩
   cases b with
   |cons _ _=>cases e
   |nil=>
   have g:dn=d9 Ts p.1:=by simpa using g
   subst g;refine⟨_,x,by rfl,?_,s,j,?_,g3⟩
   .obtain⟨X,e⟩:=vC (d9 Ts p.1) Q
    rw[e,cM];omega
   .rw[<-hb,show 14 - i=(14 - (i+1))+1 by omega,rG J]
 .rw[M] at c
  have c:Q.length<=i:=ω
  rw[L1 c] at hb;rw[<-hb] at q;refine q A1 _ Y ⟨ω,L,hd0,hk0,λm hm=>?_⟩;obtain⟨a,_,z,x,y⟩:=hv0 m hm;exact⟨a,z,x,y⟩
end My
namespace DP
open L2 MA
def DB:Ct:=λds A R _=>∃l r' a b r rs,ds=[enc (.bS l r' a b),.ref r]/\A[r]?=some (.dct (c_ rs))/\1<=l/\l<=9/\1<=r'/\r'<=9/\Bk rs a/\Bk rs b/\a.deep<=6/\b.deep<=6/\∀A',Gr A A'->R (.tup [.int (l*ld (val rs) a),.int (r'*ld (val rs) b)]) A'
def DI(d:Nat):Ct:=λds A R _=>∃m w r rs,ds=[enc m,.str w,.ref r]/\A[r]?=some (.dct (c_ rs))/\Wf m/\Bk rs m/\m.deep<d/\d<=6/\w.length+d<=100/\∀A' q,Gr A A'->A'[q]?=some (.lst ((jb (val rs) m w).map kH))->A.length<=q->R (.ref q) A'
def DJ:Ct:=λds A R _=>∃m rs,ds=[enc m,fc rs]/\Wf m/\Bk rs m/\m.deep<=5/\∀A' q,Gr A A'->A'[q]?=some (.lst ((jb (val rs) m "").map kH))->A.length<=q->R (.ref q) A'
theorem Fz{A:Ar}{p:Nat}{xs:List D}{R:DK}(h:A[p]?=some (.lst xs))(c:f6 xs=true)(d:canLayAll0 (bR xs)=true)(k:R (.bl (decide (xs=[]))) (A++[.lst []])):gK false (.ref p) (.ref A.length) (A++[.lst []]) R:=by
 unfold gK;have b:cV (A++[.lst []]) (.ref p)=.list (bR xs):=by unfold cV;simp only[getElem?_push h]
 have a:cV (A++[.lst []]) (.ref A.length)=.list []:=by unfold cV;simp only[aE];rfl
 refine⟨?_,?_,?_,?_,?_,?_⟩
 .unfold i7;simp only[getElem?_push h];exact c
 .unfold i7;simp only[aE];rfl
 .rw[b];simpa[canLay0] using d
 .rw[a];simp[canLay0,canLayAll0]
 .rw[a];simp[PyData.depth,depthAll];omega
 .rw[b,a]
  have e:PyData.eqv (.list (bR xs)) (.list [])=decide (xs=[]):=by cases xs<;>simp[bR,PyData.eqv,eqvAll]
  rw[ao δ,e];exact k
def Wy(w:Str):Prop:=∀c∈w.cps.toList,c=108\/c=114
theorem EC(x y:Str):(x++y).cps.toList=x.cps.toList++y.cps.toList:=Array.toList_append
theorem Wy.nil:Wy "":=λc h=>by
 have e:("":Str).cps.toList=[]:=η
 rw[e] at h;cases h
theorem Mw:("l":Str).cps.toList=[108]:=η
theorem Mx:("r":Str).cps.toList=[114]:=η
theorem Wy.l{w:Str}(h:Wy w):Wy (w++"l"):=λc hc=>by
 rw[EC,Mw] at hc;rcases bX.mp hc with h'|h'
 .exact h c h'
 .exact .inl (bI.mp h')
theorem Wy.r{w:Str}(h:Wy w):Wy (w++"r"):=λc hc=>by
 rw[EC,Mx] at hc;rcases bX.mp hc with h'|h'
 .exact h c h'
 .exact .inr (bI.mp h')
theorem Wy.ok{w:Str}(h:Wy w):canLay0 (.str w)=true:=by
 have e:w.cps.all (λc=>decide (c<0x110000))=true:=by
  rw[<-Array.all_toList,all_eq_true];intro c hc;have:=h c hc;exact eL ω
 simpa[canLay0,strOk] using e
theorem Sh:canLay0 (.str "left")=true:=η
theorem V2:canLay0 (.str "right")=true:=η
theorem BX(f:Str->Int):∀(m:M) (w:Str),Wy w->∀p∈jb f m w,Wy p.1/\(p.2="left"\/p.2="right")
 |.wt _,_,_,p,h=>by cases h
 |.bS l r a b,w,c,p,h=>by
  have h:p∈hr2 w (l*ld f a) (r*ld f b)++jb f a (w++"l")++jb f b (w++"r"):=h;rcases bX.mp h with h|h
  .rcases bX.mp h with h|h
   .unfold hr2 at h
    split at h
    .rw[bI.mp h];exact⟨c,.inl rfl⟩
    .split at h
     .rw[bI.mp h];exact⟨c,.inr rfl⟩
     .cases h
   .exact BX f a _ c.l p h
  .exact BX f b _ c.r p h
end DP
namespace My
open L2 DP MA
theorem Pd(T:TopD K mg "pulls" JI xr)(c:aj P w K mg base 10 "load_below" xj (ak mg 2 (Dh 6))):aj P w K mg base 11 "pulls" xr (ak mg 2 DB):=by
 refine bF T Xd λe o f d nd=>⟨_,(ay (aN (bW (aa (eZ (dX d (vr 0) ai) (dL c e f (aa (dX d (vr 0) ai) (aa (vr 1) af)))) (aa (eZ (dX d (vr 0) ai) (dL c e f (aa (dX d (vr 0) ai) (aa (vr 1) af)))) af))))),λds A R h p=>?_⟩;obtain⟨l,r',a,b,r,rs,rfl,g,h1,h2,s,t,i,j,m,db,q⟩:=h;refine⟨rfl,a,r,rs,rfl,g,i.ok,m,i.nm,λu k=>⟨.inl ⟨ω,ω⟩,?_⟩⟩;refine⟨rfl,b,r,rs,rfl,k.get g,j.ok,db,j.nm,λv n=>⟨.inl ⟨ω,ω⟩,?_⟩⟩;exact⟨show 2<=sizeLine by decide,q _ (k.trans n)⟩
theorem Pr(T:TopD K mg "tips_below" JR xB)(i:aj P w K mg base 11 "pulls" xr (ak mg 2 DB)):∀d,aj P w K mg base (d+11) "tips_below" xB (ak mg 3 (DI d)):=by
 intro d;induction d with
 |zero=>
  refine nR T λds A R RE h=>?_;obtain⟨m,w,r,rs,_,_,_,_,h,_⟩:=h;omega
 |succ d e=>
  refine jQ T JZ rfl δ λN RE f V B outer s H E u hR G ds A R h hl=>?_;have j:=u.units;have nd:=JZ.nd;refine⟨_,(av (bJ (d_ j (dX j (vr 0) ai) bE) (ay (aN (cE af))) bM)
  (av (dS 3 nd (dL i u G (aa (vr 0) (aa (vr 2) af))))
  (av (dS 4 nd (cE af))
  (av (bJ (BR (dX j (vr 3) ai) (dX j (vr 3) ai)) (ay (c7 (gM gV jC jE iY jq (vr 4) (aa (bW (aa (vr 1) (aa bE af))) af)))) bM)
  (av (bJ (BU (dX j (vr 3) ai) (dX j (vr 3) ai)) (ay (c7 (gM gV jC jE iY jq (vr 4) (aa (bW (aa (vr 1) (aa bE af))) af)))) bM)
  (ay (aN (c6 (c6 (vr 4) (dL e u G (aa (dX j (vr 0) ai) (aa (c6 (vr 1) bE) (aa (vr 2) af))))) (dL e u G (aa (dX j (vr 0) ai) (aa (c6 (vr 1) bE) (aa (vr 2) af)))))))))))),?_⟩
  obtain⟨m,w,r,rs,rfl,O,I,v,hd,h6,J,q⟩:=h;have hs:(1000:Nat)<=sizeLine:=δ
  cases m with
  |wt n=>exact⟨bQ _,q _ _ Gr.push aE (aF _)⟩
  |bS l r' a b=>
   have W:max a.deep b.deep+1<d+1:=hd;have L:=I.arms;obtain⟨X,Y,Z,r4,_,_⟩:=L;have ll:("l":Str).length=1:=η
   have lr:("r":Str).length=1:=η
   have al:∀x y:Str,(x++y).length=x.length+y.length:=λx y=>ue;refine⟨rfl,l,r',a,b,r,rs,rfl,O,X,Y,Z,r4,v.left,v.right,ω,ω,λg Q=>?_⟩;refine⟨bQ _,?_⟩;have n0:=Gk w (l*ld (val rs) a) (r'*ld (val rs) b);have n1:=tP (val rs) a (w++"l");have n2:=tP (val rs) b (w++"r");have p1:2 ^ a.deep<=2 ^ 6:=fj δ ω;have p2:2 ^ b.deep<=2 ^ 6:=fj δ ω;by_cases k:r'*ld (val rs) b<l*ld (val rs) a;case' pos=>
    have o:hr2 w (l*ld (val rs) a) (r'*ld (val rs) b)=[(w,("left":Str))]:=by unfold hr2;rw[aA k]
    refine cD (λ_=>?_) (λc=>absurd k c);refine⟨gx aE,show 2<=sizeLine by decide,iP aE δ ?_⟩;have h2:=get_set (ys:=[]++[D.tup [.str w,.str "left"]]) (aE (A:=g) (c:=C.lst []));have z:Gr g ((g++[C.lst []]).set g.length (.lst ([]++[D.tup [.str w,.str "left"]]))):=Gr.set Gr.push (aF _);refine cD (λc=>absurd k ω) (λ_=>?_);generalize (g++[C.lst []]).set g.length (.lst ([]++[D.tup [.str w,.str "left"]]))=p at*
    have h2:p[g.length]?=some (.lst ((hr2 w (l*ld (val rs) a) (r'*ld (val rs) b)).map kH)):=by rw[h2,o];rfl
   case' neg=>
    refine cD (λc=>absurd c k) (λ_=>?_);by_cases F:l*ld (val rs) a<r'*ld (val rs) b;case' pos=>
     have o:hr2 w (l*ld (val rs) a) (r'*ld (val rs) b)=[(w,("right":Str))]:=by unfold hr2;rw[ao k,aA F]
     refine cD (λ_=>?_) (λc=>absurd F c);refine⟨gx aE,show 2<=sizeLine by decide,iP aE δ ?_⟩;have h2:=get_set (ys:=[]++[D.tup [.str w,.str "right"]]) (aE (A:=g) (c:=C.lst []));have z:Gr g ((g++[C.lst []]).set g.length (.lst ([]++[D.tup [.str w,.str "right"]]))):=Gr.set Gr.push (aF _);generalize (g++[C.lst []]).set g.length (.lst ([]++[D.tup [.str w,.str "right"]]))=p at*
     have h2:p[g.length]?=some (.lst ((hr2 w (l*ld (val rs) a) (r'*ld (val rs) b)).map kH)):=by rw[h2,o];rfl
    case' neg=>
     have o:hr2 w (l*ld (val rs) a) (r'*ld (val rs) b)=[]:=by unfold hr2;rw[ao k,ao F]
     refine cD (λc=>absurd c F) (λ_=>?_);have h2:=aE (A:=g) (c:=C.lst []);have z:Gr g (g++[C.lst []]):=Gr.push;generalize g++[C.lst []]=p at*
     have h2:p[g.length]?=some (.lst ((hr2 w (l*ld (val rs) a) (r'*ld (val rs) b)).map kH)):=by rw[h2,o];rfl
   all_goals
    have t:=(Q.trans z).get O;refine⟨ω,rfl,a,_,r,rs,rfl,t,I.left,v.left,ω,ω,by rw[al];omega,λA3 q3 M h3 _=>?_⟩;refine iR (M.get h2) h3 (by simp;omega) ?_;refine⟨ω,rfl,b,_,r,rs,rfl,getElem?_push (M.get t),I.right,v.right,ω,ω,by rw[al];omega,λA4 q4 S h4 _=>?_⟩;refine iR (S.get aE) h4 (by simp;omega) ?_;have U:Gr A A4:=(((Q.trans z).trans M).trans Gr.push).trans S;refine q _ _ (U.trans Gr.push) ?_ U.len;rw[aE];simp[jb]
theorem Pw(T:TopD K mg "tips" JQ xA)(d:mg "dict"=none)(b:aj P w K mg base 9 "check_mobile" mY (ak mg 1 pA))(a:aj P w K mg base 10 "check_weights" sO (ak mg 2 zb))(c:aj P w K mg base 17 "tips_below" xB (ak mg 3 (DI 6))):aj P w K mg base 18 "tips" xA (ak mg 2 DJ):=by
 refine bF T Xk λf r i s nd=>⟨_,(av (c7 (dL b f i (aa (vr 0) af)))
  (av (c7 (dL a f i (aa (vr 0) (aa (vr 1) af))))
  (ay (aN (dL c f i (aa (vr 0) (aa bE (aa (ie (mD rfl) mH d nA (aa (vr 1) af)) af)))))))),λds A R h t=>?_⟩
 obtain⟨m,rs,rfl,j,e,hd,q⟩:=h;refine⟨rfl,_,⟨m,rfl,j,hd,rfl⟩,λu k=>?_⟩;refine⟨rfl,_,⟨m,rs,rfl,e.ok,hd,e.nm,rfl⟩,λv l=>?_⟩;refine vg e.ok ?_;have g:=(k.trans l).trans (Gr.push (T:=[C.dct (c_ rs)]));exact⟨rfl,m,_,_,rs,rfl,aE,j,e,ω,ω,η,λx y n o p=>q _ _ (g.trans n) o (cC g.len p)⟩
end My
namespace DP
open L2 MA
theorem D8{a:Int}(h:a<=2 ^ 63):a<2 ^ 2000:=qw h (yx (show(2 ^ 63:Int)<2 ^ 64 by decide) (by
 have:(2:Nat) ^ 64<=2 ^ 2000:=fj δ δ;exact_mod_cast this))
noncomputable def eK(rs:List (Str×Int))(s:Str->Rat)(n:Str):Rat:=(((val rs n:Int):Rat)/((1:Int):Rat))*(((rf (s n)).2:Rat)/((rf (s n)).1:Rat))
theorem tu{x:Rat}(h:0<x):0<(rf x).1:=d8 h
theorem Se{rs:List (Str×Int)}{s:Str->Rat}{n:Str}(h:0<s n):eK rs s n*s n=((val rs n:Int):Rat):=by
 unfold eK;have a:(((rf (s n)).1:Int):Rat)≠0:=by have:=tu h;exact_mod_cast (by omega:(rf (s n)).1≠0)
 have b:(((rf (s n)).2:Int):Rat)≠0:=by have:=cR (s n);exact_mod_cast (by omega:(rf (s n)).2≠0)
 have e:(((rf (s n)).2:Rat)/((rf (s n)).1:Rat))*s n=1:=by
  conv=>lhs;rhs;rw[<-gh (s n)]
  rw[lW,lW,yF,<-yF (((rf (s n)).1:Rat)⁻¹),Rat.inv_mul_cancel _ a,oX,Rat.mul_inv_cancel _ b]
 rw[yF,e,Rat.mul_one,lW];have:(((1:Int):Rat))⁻¹=1:=by
  have h:=Rat.inv_mul_cancel (1:Rat) δ;rw[Rat.mul_one] at h;simpa using h
 rw[this,Rat.mul_one]
theorem Sf{rs:List (Str×Int)}{s:Str->Rat}{n:Str}(h:iN (s n))(h1:1<=val rs n)(h2:val rs n<=999999):0<eK rs s n/\(rf (eK rs s n)).1<=2000000000000:=by
 have f:=tu h.pos;have g:=cR (s n);have e:eK rs s n=((val rs n*(rf (s n)).2:Int):Rat)/((1*(rf (s n)).1:Int):Rat):=by
  unfold eK;rw[mul_div δ f]
 have c:0<val rs n*(rf (s n)).2:=f_ ω g;have d:=Br (a:=val rs n*(rf (s n)).2) (b:=1*(rf (s n)).1) ω;rw[<-e] at d;have l:=VS (a:=val rs n*(rf (s n)).2) (b:=1*(rf (s n)).1) c ω;have p:=VT (a:=val rs n*(rf (s n)).2) (b:=1*(rf (s n)).1) c ω;rw[d] at l p;have hd:=h.den;have:val rs n*(rf (s n)).2<=999999*2000000:=dQ h2 hd ω δ;refine⟨?_,ω⟩;have h0:(0:Rat)<eK rs s n*s n:=by rw[Se h.pos];exact_mod_cast (by omega:(0:Int)<val rs n)
 exact(Rat.mul_pos_iff_of_pos_right h.pos).mp h0
theorem Ai{A b:Ar}{r:Nat}{o:Obj}{kvs:List (Key×D)}(h:A[r]?=some (.dct kvs))(g:Gr (A.set r (.bw o kvs)) b):b[r]?=some (.bw o kvs)/\Gr A (b.set r (.dct kvs)):=by
 obtain⟨T,rfl⟩:=g;have a:=(bY.mp h).1;refine⟨by rw[iu (by simpa using a),eF a],T,?_⟩;rw[yj _ _ (by simpa using a),set_set];congr 1;apply qN;intro i;by_cases e:i=r
 .subst e;rw[eF a,h]
 .rw[eE (Ne.symm e)]
theorem Bh:∀(ps acc:List (Key×D)),((acc++ps).map (·.1)).Nodup->ps.foldl (λacc p=>b5 acc p.1 p.2) acc=acc++ps
 |[],acc,_=>by simp
 |p::ps,acc,h=>by
  rw[gX];have c:(acc.any λa=>decide (a.1=p.1))=false:=by
   rw[List.any_eq_false];intro a b z;rw[dP] at h;exact(oM.mp h).2.2 a.1 (cX b) p.1 θ (gD z)
  have e:b5 acc p.1 p.2=acc++[p]:=by
   unfold b5;rw[c];rfl
  rw[e,Bh ps (acc++[p]) (by simpa using h)];simp
theorem Af(g:Str->D):∀(ns:List Str) (n:Str),n∈ns->br (ns.map λn=>((Sum.inr n:Key),g n)) (Sum.inr n)=some (g n)
 |[],n,h=>by cases h
 |x::ns,n,h=>by
  show(if (Sum.inr x:Key)=Sum.inr n then some (g x) else br _ _)=_;by_cases e:x=n
  .rw[aA (by rw[e]),e]
  .rw[ao (λz=>e (Sum.inr.inj z))]
   rcases aY.mp h with z|z
   .exact absurd z.symm e
   .exact Af g ns n z
noncomputable def ff(g:Str->Rat)(n:Str):D:=.tup [.str n,fq (g n)]
theorem A_(g:Str->Rat):∀ns:List Str,fy (ns.map (ff g))=some (ns.map λn=>((Sum.inr n:Key),fq (g n)))
 |[]=>rfl
 |n::ns=>by
  have:=A_ g ns;simp[ff,fy,this,gc]
def DL:Ct:=λds A R _=>∃(r1:Nat) (sD:List (Key×D)) (ns:List Str) (s:Str->Rat) (r2:Nat) (rs:List (Str×Int)),ds=[.ref r1,.ref r2]/\A[r1]?=some (.dct sD)/\Fb sD ns s/\A[r2]?=some (.dct (c_ rs))/\r1≠r2/\(∀n∈ns,iN (s n)/\1<=val rs n/\val rs n<=999999/\br (c_ rs) (Sum.inr n)=some (.int (val rs n)))/\ns.length<=32/\
 ∀(A':Ar) (q:Nat) (kvs':List (Key×D)),Gr A A'->A'[q]?=some (.dct kvs')->A.length<=q->Fb kvs' ns (eK rs s)->R (.ref q) A'
theorem GR{α:Type}[DecidableEq α]:∀(ys l:List α),ys.Nodup->(∀x∈ys,x∈l)->ys.length<=l.length
 |[],l,_,_=>bQ _
 |y::ys,l,h,a=>by
  obtain⟨h1,h2⟩:=iK.mp h;have:=GR ys (l.erase y) h2 λx b=>(t_ (λz=>h1 (by rw[<-z];exact b))).mpr (a x (bq _ b));have c:=a y (aT ..);have:=tY c;have:=qv c;simp only[gm];omega
noncomputable def oi:Option Int->D
 |some k=>.int k
 |none=>.aG
noncomputable def mU(Uo:List Rat)(x:Rat):Option Int:=match Uo with
 |[]=>none
 |a::r=>if ((a::r).any λy=> !decide (y=a))=true then none else if (rf (a*x)).2=1 then some (rf (a*x)).1 else none
theorem HW:∀xs:List Rat,f6 (xs.map fq)=true
 |[]=>rfl
 |x::xs=>by simp[f6,gf,fq,HW xs]
theorem GN:∀xs:List Rat,canLayAll0 (bR (xs.map fq))=true
 |[]=>rfl
 |x::xs=>by
  have:=Az x;simp[bR,canLayAll0,this,GN xs]
theorem Y5{rs:List (Str×Int)}(h:jm rs){n:Str}(b:n∈rs.map (·.1)):1<=val rs n/\val rs n<=999999:=by
 obtain⟨r,a,rfl⟩:=aM.mp b;rw[Y6 (V4 h.up) a];exact h.no r a
noncomputable def eO(rs:List (Str×Int))(s:Str->Rat)(ns:List Str)(y:Str):Option (Str×Int):=match mU ((ns.filter λn=> !decide (n=y)).map (eK rs s)) (s y) with
 |some k=>if k<=999999/\k≠val rs y then some (y,k) else none
 |none=>none
def DA:Ct:=λds A R _=>∃m rs,ds=[enc m,fc rs]/\Wf m/\Bk rs m/\m.deep<=5/\
 (cP [] (bC m "" 1)=none->∀(A':Ar) (q:Nat) (ns ys:List Str),Gr A A'->A.length<=q->ns.Nodup->(∀x,x∈ns↔x∈m.names)->ys.Pairwise strLt->(∀x,x∈ys↔x∈m.names)->A'[q]? =some (.lst ((ys.filterMap (eO rs (shr m) ns)).map bH))->R (.ref q) A')/\
 (cP [] (bC m "" 1)≠none->∀(A':Ar) (q:Nat),Gr A A'->A.length<=q->A'[q]? =some (.lst [])->R (.ref q) A')
def Du:Ct:=λds A R _=>∃(y:Str) (r1:Nat) (sD:List (Key×D)) (ns:List Str) (s:Str->Rat) (r2:Nat) (GK:List (Key×D)) (L:Str->Rat),ds=[.str y,.ref r1,.ref r2]/\A[r1]?=some (.dct sD)/\Fb sD ns s/\A[r2]?=some (.dct GK)/\Fb GK ns L/\r1≠r2/\y∈ns/\ns.length<=32/\(∀n∈ns,iN (s n))/\(∀n∈ns,0<L n/\(rf (L n)).1<=2000000000000)/\
 ∀A',Gr A A'->R (oi (mU ((ns.filter λn=> !decide (n=y)).map L) (s y))) A'
end DP
namespace My
open L2 DP MA
theorem Px(T:TopD K mg "whole_loads" JS xC)(k:mg "dict"=none)(f:aj P w K mg base 3 "quotient" qc (ak mg 2 (λds A R E=>∃a b c d:Int,ds=[.tup [.int a,.int b],.tup [.int c,.int d]]/\kj [.tup [.int a,.int b],.tup [.int d,.int c]] A R E))):aj P w K mg base 4 "whole_loads" xC (ak mg 2 DL):=by
 refine bF T Xl λJ hR hx y nd=>⟨_,(ay (aN (ie (mD rfl) mH k nA (aa (EY (i:=0) (eY none (own:=["name"]) (frees:=["numbers","fractions"]) (ix:=[1,0]) rfl (nN (vr 0)) (λc=>(pG 0 (show(["name","numbers","fractions"]:List Str).Nodup by decide+kernel))) (λc=>(bW (aa (vr 0) (aa (dL f J m5 (aa (bW (aa (dX y (vr 1) (vr 0)) (aa ai af))) (aa (dX y (vr 2) (vr 0)) af))) af)))))) af)))),λds A R h hl=>?_⟩;obtain⟨r,e,ns,j,L,rs,rfl,m,s,t,u,M,B,q⟩:=h;have hz:(1000:Nat)<=sizeLine:=δ
 have l1:=cy m;refine FT m λo=>?_;have v:(A.set r (.bw o e))[r]?=some (.bw o e):=eF l1;have h2:(A.set r (.bw o e))[L]?=some (.dct (c_ rs)):=by rw[eE u];exact t
 refine pZ v ?_;have N:(e.map λp=>keyOf p.1)=ns.map D.str:=by
  have:=cj (List.map keyOf) s.keys;rw[bK,bK] at this;exact this
 rw[N];refine pJ (λd=>match d with|.str n=>ff (eK rs j) n|d=>d) _ _ _ (λA' g=>g.get v) (λd hd A' g=>?_) (by simp;omega) (λF G=>?_)
 .obtain⟨n,l,rfl⟩:=aM.mp hd
  obtain⟨k1,k2,k3,O⟩:=M n l;have S:=tu k1.pos;have U:=cR (j n);have kn:=k1.num;have kd:=k1.den;refine⟨[.str n],rfl,λQ V=>?_⟩;refine fm (g.get h2) rfl O ?_;refine⟨show 2<=sizeLine by decide,?_⟩;refine su (g.get v) rfl (s.get n l) ?_;refine⟨rfl,val rs n,1,(rf (j n)).1,(rf (j n)).2,rfl,val rs n,1,(rf (j n)).2,(rf (j n)).1,rfl,ω,δ,U,S,ω,ω,?_,λA3 W=>?_⟩
  .have:val rs n*(rf (j n)).2<=999999*2000000:=dQ k3 kd ω δ
   exact D8 ω
  .exact⟨show 2<=sizeLine by decide,V _ W⟩
 have X:(ns.map D.str).map (λd=>match d with|.str n=>ff (eK rs j) n|d=>d)=ns.map (ff (eK rs j)):=by
  rw[bK];rfl
 rw[fC,X];have Y:=G.trans (Gr.push (T:=[C.lst (ns.map (ff (eK rs j)))]));obtain⟨t1,H⟩:=Ai m Y;have l2:=G.len;rw[length_set] at l2;refine⟨e,t1,?_⟩;have Z:((F++[C.lst (ns.map (ff (eK rs j)))]).set r (.dct e))[F.length]?=some (.lst (ns.map (ff (eK rs j)))):=by
  rw[eE ω];exact aE
 refine u_ Z (A_ _ _) (by simp;omega) ?_;have I:((ns.map λn=>((Sum.inr n:Key),fq (eK rs j n))).map (·.1))=ns.map Sum.inr:=by
  rw[bK];rfl
 have x:(ns.map (Sum.inr:Str->Key)).Nodup:=jA.mpr (s.nd.imp λh z=>h (Sum.inr.inj z));have ep:m6 (ns.map λn=>((Sum.inr n:Key),fq (eK rs j n)))=ns.map λn=>((Sum.inr n:Key),fq (eK rs j n)):=by
  have:=Bh (ns.map λn=>((Sum.inr n:Key),fq (eK rs j n))) [] (by rw[fC,I];exact x);simpa[m6] using this
 rw[ep];exact q _ _ _ (H.trans Gr.push) aE (by have:=H.len;simpa using this) ⟨I,s.nd,λn l=>Af (λn=>fq (eK rs j n)) ns n l⟩
theorem O3(T:TopD K mg "number_by_others" JE xm)(t:mg "any"=none)(f:aj P w K mg base 3 "product" ow (ak mg 2 kj)):aj P w K mg base 4 "number_by_others" xm (ak mg 3 Du):=by
 refine bF T W_ λhr hR E k nd=>⟨_,(av (dS 3 nd (EY (i:=2) (EV none (own:=["other"]) (frees:=["loads","name"]) (ix:=[2,0]) rfl (nN (vr 2)) (λc=>(pG 0 (show(["other","loads","name"]:List Str).Nodup by decide+kernel))) (λc=>(jV k (vr 0) (vr 2))) (λc=>(dX k (vr 1) (vr 0))))))
  (av (bJ (PW.pt (gO (d_ k (vr 3) (cE af)) (iE (e_ (dI (Ej rfl) EI t Ed (aa (eY none (own:=["whole"]) (frees:=["others"]) (ix:=[3]) rfl (cA (vr 3)) (λc=>(pG 0 (show(["whole","others"]:List Str).Nodup by decide+kernel))) (λc=>(NU k (vr 0) (dX k (vr 1) ai)))) af)))))) (ay (aN jP)) bM)
  (av (dS 4 nd (dL f hr E (aa (dX k (vr 3) ai) (aa (dX k (vr 1) (vr 0)) af))))
  (ay (aN (ve (d_ k (dX k (vr 4) ai) ai) (dX k (vr 4) ai) jP)))))),λds A R h hl=>?_⟩
 obtain⟨y,r1,Y,ns,s,l,b,L,rfl,F,N,u,G,hne,Z,H,hs,hL,q⟩:=h;have hz:(1000:Nat)<=sizeLine:=δ
 have l2:=cy u;refine FT u λo=>?_;have O:(A.set l (.bw o b))[l]?=some (.bw o b):=eF l2;refine pZ O ?_;have ek:(b.map λp=>keyOf p.1)=ns.map D.str:=by
  have:=cj (List.map keyOf) G.keys;rw[bK,bK] at this;exact this
 rw[ek];refine zH O (λd=>match d with|.str n=> !decide (n=y)|_=>true) (λd=>match d with|.str n=>fq (L n)|d=>d) _ _ (λd hd=>?_) (by simp;omega) ?_
 .obtain⟨n,v,rfl⟩:=aM.mp hd
  exact⟨[.str n],rfl,λQ z=>z,λQ z=>su O rfl (G.get n v) z⟩
 obtain⟨e,M⟩:∃e,e=(ns.filter λn=> !decide (n=y)).map L:=⟨_,rfl⟩;have e2:((ns.map D.str).filter (λd=>match d with|.str n=> !decide (n=y)|_=>true)).map (λd=>match d with|.str n=>fq (L n)|d=>d)=e.map fq:=by
  rw[List.filter_map,bK,M,bK];rfl
 have S:e.length<=32:=by
  rw[M,aK];exact cC (Cu _ _) H
 have U:∀x∈e,0<x/\(rf x).1<=2000000000000:=λx E=>by
  rw[M] at E;obtain⟨n,v,rfl⟩:=aM.mp E;exact hL n (nh.mp v).1
 rw[fC,e2];rw[<-M] at q;have gA:=Gr.push (A:=A.set l (.bw o b)) (T:=[C.lst (e.map fq)]);obtain⟨t1,t2⟩:=Ai u gA;refine⟨b,t1,?_⟩;have hO:((A.set l (.bw o b)++[C.lst (e.map fq)]).set l (.dct b))[(A.set l (.bw o b)).length]?=some (.lst (e.map fq)):=by
  rw[eE (by rw[length_set];omega)];exact aE
 generalize (A.set l (.bw o b)++[C.lst (e.map fq)]).set l (.dct b)=B0 at*
 generalize (A.set l (.bw o b)).length=p0 at*
 refine⟨bQ _,Fz hO (HW _) (GN _) ?_⟩;have V:=t2.trans (Gr.push (T:=[C.lst []]));have m:=getElem?_push (T:=[C.lst []]) hO;have Zx:=V.get F;generalize B0++[C.lst []]=B1 at*
 cases e with
 |nil=>exact q _ V
 |cons a r=>
  obtain⟨a0,a1⟩:=U a (aT ..);have hv:cY ((a::r).map fq) 0=some (fq a):=mC (j:=0) rfl;refine d7 m ?_;refine uX fq (λ_=>true) (λx=>.bl (!decide (x=a))) (a::r) [] _ (λA2 B=>B.get m) (λx E A2 B=>⟨[fq x],rfl,λQ z=>z _ Gr.refl,λA3 I Q z=>kF ((B.trans I).get m) hv (v9 (z _ Gr.refl))⟩) (by simp at S ⊢;omega) (λA2 B=>?_);have ef:(a::r).filter (λ_=>true)=a::r:=List.filter_eq_self.mpr λ_ _=>rfl;rw[ef,fC];refine DS (bs:=(a::r).map λx=> !decide (x=a)) aE (nJ _ _) ?_;have I:=(V.trans B).trans (Gr.push (T:=[C.lst ((a::r).map λx=>D.bl (!decide (x=a)))]));have W:=(B.trans (Gr.push (T:=[C.lst ((a::r).map λx=>D.bl (!decide (x=a)))]))).get m;have J:=I.get F;have ea:((a::r).map λx=> !decide (x=a)).any id=(a::r).any λx=> !decide (x=a):=by rw[any_map];rfl
  rw[ea];have q:∀A',Gr A A'->R (oi (if ((a::r).any λy=> !decide (y=a))=true then none else if (rf (a*s y)).2=1 then some (rf (a*s y)).1 else none)) A':=q;cases hb:(a::r).any λx=> !decide (x=a) with
  |true=>
   have:=q _ I;rw[aA hb] at this;exact this
  |false=>
   have q:=λA' g=>q A' g;rw[hb] at q;have fs:=hs y Z;have hp:=tu fs.pos;have hq:=cR (s y);have ha:=tu a0;have X:=cR a;have kn:=fs.num;have kd:=fs.den;refine kF W hv ?_;refine fm J rfl (N.get y Z) ?_;refine⟨rfl,(rf a).1,(rf a).2,(rf (s y)).1,(rf (s y)).2,rfl,ha,X,hp,hq,ω,ω,?_,λA4 g4=>?_⟩
   .have:(rf a).1*(rf (s y)).1<=2000000000000*2000000:=dQ a1 kn ω δ
    exact D8 ω
   rw[gh,gh];have q:=q _ (I.trans g4);rw[ao δ] at q;refine cD (λc=>?_) (λc=>?_)
   .rw[aA (show(rf (a*s y)).2=1 from c)] at q
    exact q
   .rw[ao (show ¬(rf (a*s y)).2=1 from c)] at q
    exact q
theorem O_(T:TopD K mg "one_changed" JF xo)(B:mg "dict"=none)(o:mg "sorted"=none){t:Tok}(l:mg "HEAVIEST"=some (.int 999999 t))(f:aj P w K mg base 9 "check_mobile" mY (ak mg 1 pA))(d:aj P w K mg base 10 "check_weights" sO (ak mg 2 zb))(I:aj P w K mg base 11 "bar" ou (ak mg 1 rj))(g:aj P w K mg base 11 "name_shares" mZ (ak mg 1 zh))(i:aj P w K mg base 4 "whole_loads" xC (ak mg 2 DL))(b:aj P w K mg base 4 "number_by_others" xm (ak mg 3 Du)):aj P w K mg base 12 "one_changed" xo (ak mg 2 DA):=by
 refine bF T Xa λV hR y hu nd=>⟨_,(av (c7 (dL f V y (aa (vr 0) af)))
  (av (c7 (dL d V y (aa (vr 0) (aa (vr 1) af))))
  (av (bJ (qk (dL I V y (aa (vr 0) af)) jP) (ay (aN (cE af))) bM)
  (av (dS 2 nd (ie (mD rfl) mH B nA (aa (vr 1) af)))
  (av (dS 3 nd (dL g V y (aa (vr 0) af)))
  (av (dS 4 nd (dL i V y (aa (vr 3) (aa (vr 2) af))))
  (av (dS 5 nd (cE af))
  (av (eH dM rfl (cA (dI (zF rfl) zM o uw (aa (vr 3) af))) (dG 6 nd) (av (dS 7 nd (dL b V y (aa (vr 6) (aa (vr 3) (aa (vr 4) af)))))
  (ay (bJ (PW.pt (pN (qk (vr 7) jP) (pN (YF (vr 7) (lA l)) (rV (jV hu (vr 7) (dX hu (vr 2) (vr 6))))))) (ay (c7 (gM gV jC jE iY jq (vr 5) (aa (bW (aa (vr 6) (aa (vr 7) af))) af)))) bM))))
  (ay (aN (vr 5))))))))))),λds A R h hl=>?_⟩
 obtain⟨m,rs,rfl,Z,J,hd,q1,q2⟩:=h;refine⟨rfl,_,⟨m,rfl,Z,hd,rfl⟩,λA1 g1=>?_⟩;refine⟨rfl,_,⟨m,rs,rfl,J.ok,hd,J.nm,rfl⟩,λA2 g2=>?_⟩;refine⟨rfl,m,rfl,Z,hd,λL g3=>?_⟩;have M:=(g1.trans g2).trans g3;cases hb:cP [] (bC m "" 1) with
 |some p=>exact⟨bQ _,q2 (by rw[hb];intro z;cases z) _ _ (M.trans Gr.push) M.len aE⟩
 |none=>
  have q1:=q1 hb;refine vg J.ok ?_;have hB:=aE (A:=L) (c:=C.dct (c_ rs));have gB:=M.trans (Gr.push (T:=[C.dct (c_ rs)]));have lB:L.length<(L++[C.dct (c_ rs)]).length:=θ
  generalize L++[C.dct (c_ rs)]=B0 at*
  refine⟨rfl,m,rfl,Z,hd,hb,λB1 p1 G ns f1 h1 k1 q N=>?_⟩;have nl:ns.length<=32:=cC (GR ns m.names q.nd λx y=>(N x).mp y) (iZ hd);have O:∀n∈ns,iN (shr m n):=λn H=>xO Z.arms hd hb ((N n).mp H);have E:∀n∈ns,1<=val rs n/\val rs n<=999999:=λn H=>Y5 J.ok (J.nm n ((N n).mp H));have hn2:p1≠L.length:=ω
  refine⟨rfl,p1,G,ns,shr m,L.length,rs,rfl,h1,q,f1.get hB,hn2,λn H=>⟨O n H,(E n H).1,(E n H).2,nS rs n (J.nm n ((N n).mp H))⟩,nl,λr p2 W f2 h2 k2 Pz=>?_⟩;refine⟨bQ _,?_⟩;have g0:=(gB.trans f1).trans f2;have lb:=g0.len;have hT:=aE (A:=r) (c:=C.lst []);have Ql:=(Gr.push (A:=r) (T:=[C.lst []])).get (f2.get h1);have ZC:=(Gr.push (A:=r) (T:=[C.lst []])).get h2;have ZD:=(Gr.push (A:=r) (T:=[C.lst []])).get ((f1.trans f2).get hB);refine By Ql q.keys q.nd ω λys hp hm=>?_;have ly:=pw_len ys ns hp λx y=>(hm x).mp y;refine d7 aE ?_;have hz:(1000:Nat)<=sizeLine:=δ
  have lt:(r++[C.lst []]).length=r.length+1:=θ
  have gC:=Gr.push (A:=r++[C.lst []]) (T:=[C.lst (ys.map D.str)]);have hl3:=aE (A:=r++[C.lst []]) (c:=C.lst (ys.map D.str));have ZZ:=cy (f2.get h1);have Z0:=cy h2;have Z1:=cy ((f1.trans f2).get hB);refine eG (λrest τ A'=>∃(dn a:List Str) (x z:Option D),rest=a.map D.str/\dn++a=ys/\τ=[some (enc m),some (fc rs),some (.ref L.length),some (.ref p1),some (.ref p2),some (.ref r.length),x,z]/\A'[r.length]?=some (.lst ((dn.filterMap (eO rs (shr m) ns)).map bH))/\Gr r A'/\A'[(r++[C.lst []]).length]?=some (.lst (ys.map D.str))) ?_ ?_ ?_ _ _ _ ⟨[],ys,none,none,rfl,rfl,rfl,gC.get hT,Gr.push.trans gC,hl3⟩
  .rintro rest τ A' ⟨dn,a,x,z,_,_,_,_,_,h3⟩
   exact h3
  .rintro v rest τ A' ⟨dn,a,x,z,e,j,rfl,ht,X,h3⟩ Nx hN
   cases a with
   |nil=>cases e
   |cons n a=>
    cases e;have Y:n∈ns:=(hm n).mp (by rw[<-j];simp);have hdl:dn.length<=32:=by
     have:(dn++n::a).length=ys.length:=by rw[j]
     simp at this;omega
    have key:(dn++[n]).filterMap (eO rs (shr m) ns)=dn.filterMap (eO rs (shr m) ns)++(eO rs (shr m) ns n).toList:=by
     rw[List.filterMap_append];cases h:eO rs (shr m) ns n<;>simp[h]
    refine⟨rfl,n,p1,G,ns,shr m,p2,W,eK rs (shr m),rfl,X.get (f2.get h1),q,X.get h2,Pz,?_,Y,nl,O,λk Q=>Sf (O k Q) (E k Q).1 (E k Q).2,λA4 g4=>?_⟩
    .have:=cy h1
     omega
    have s:=g4.get ht;have F:=g4.get h3;have u:=X.trans g4;cases S:mU ((ns.filter λk=> !decide (k=n)).map (eK rs (shr m))) (shr m n) with
    |none=>
     refine hN _ _ ⟨dn++[n],a,_,_,rfl,by simpa using j,rfl,?_,u,F⟩;have U:eO rs (shr m) ns n=none:=by
      unfold eO;rw[S]
     rw[key,U];simpa using s
    |some k=>
     have no:¬(k<=999999/\k≠val rs n)->A4[r.length]?=some (.lst (((dn++[n]).filterMap (eO rs (shr m) ns)).map bH)):=λc=>by
      have U:eO rs (shr m) ns n=none:=by
       unfold eO;rw[S];simp only[ao c]
      rw[key,U];simpa using s
     refine cD (λc1=>?_) (λc1=>?_)
     .refine fm (u.get ((f1.trans f2).get hB)) rfl (nS rs n (J.nm n ((N n).mp Y))) ?_
      refine cN (λc2=>?_) (λc2=>?_)
      .refine⟨gx s,show 2<=sizeLine by decide,iP s ?_ ?_⟩
       .have:(dn.filterMap (eO rs (shr m) ns)).length<=dn.length:=List.length_filterMap_le _ _
        rw[aK];omega
       .refine hN _ _ ⟨dn++[n],a,_,_,rfl,by simpa using j,rfl,?_,u.set (aF _),?_⟩
        .rw[key]
         have:eO rs (shr m) ns n=some (n,k):=by
          unfold eO;rw[S];simp only[aA (show k<=999999/\k≠val rs n from⟨c1,c2⟩)]
         rw[this,dP];exact Ag s
        .rw[eE ω]
         exact F
      .exact hN _ _ ⟨dn++[n],a,_,_,rfl,by simpa using j,rfl,no (λz=>z.2 c2),u,F⟩
     .exact hN _ _ ⟨dn++[n],a,_,_,rfl,by simpa using j,rfl,no (λz=>c1 z.1),u,F⟩
  .rintro τ A' ⟨dn,a,x,z,e,j,rfl,ht,X,h3⟩
   cases a with
   |cons n a=>cases e
   |nil=>
    have j:dn=ys:=by simpa using j
    rw[j] at ht;exact q1 _ _ ns ys (g0.trans X) lb q.nd N hp (λx=>by rw[hm,N]) ht
end My
namespace DP
open L2 MA
noncomputable def fu(Gs:List aS):List Str:=Gs.flatMap aC
noncomputable def cU(Ts:List Tb)(Gs:List aS)(n:Str):List aS:=if n∈fu Gs then Gs else Gs++[aO Ts n]
noncomputable def bG(Ts:List Tb):List aS:=(Ts.flatMap aH).foldl (cU Ts) []
noncomputable def fD(lo:Nat)(A:Ar):List Nat->List aS->Prop
 |[],[]=>True
 |q::qs,P::Ps=>gJ lo A q P/\fD lo A qs Ps
 |_,_=>False
theorem fD.kI{lo a:Nat}{A B:Ar}(f:∀q P,gJ lo A q P->gJ a B q P):∀{qs:List Nat} {Ps:List aS},fD lo A qs Ps->fD a B qs Ps
 |[],[],_=>trivial
 |q::qs,P::Ps,h=>⟨f q P h.1,fD.kI f h.2⟩
 |[],_::_,h=>h.elim
 |_::_,[],h=>h.elim
theorem fD.snoc{lo:Nat}{A:Ar}{q:Nat}{P:aS}(a:gJ lo A q P):∀{qs:List Nat} {Ps:List aS},fD lo A qs Ps->fD lo A (qs++[q]) (Ps++[P])
 |[],[],_=>⟨a,trivial⟩
 |_::qs,_::Ps,h=>⟨h.1,fD.snoc a h.2⟩
 |[],_::_,h=>h.elim
 |_::_,[],h=>h.elim
theorem fD.len{lo:Nat}{A:Ar}:∀{qs:List Nat} {Ps:List aS},fD lo A qs Ps->qs.length=Ps.length
 |[],[],_=>rfl
 |q::qs,P::Ps,h=>by simp[fD.len h.2]
 |[],_::_,h=>h.elim
 |_::_,[],h=>h.elim
def LG(lo:Nat)(A:Ar)(q:Nat)(Gs:List aS):Prop:=lo<=q/\∃gs,A[q]?=some (.lst (gs.map D.ref))/\fD lo A gs Gs
def mu(b:Nat)(NN:List Str)(A:Ar)(Gs:List aS):Prop:=∃(gs:List Nat) (kvs:List (Key×D)) (ns:List Str),A[b]?=some (.lst (gs.map D.ref))/\fD (b+2) A gs Gs/\A[b+1]?=some (.dct kvs)/\kvs.map (·.1)=ns.map Sum.inr/\ns.Nodup/\(∀n,n∈ns↔n∈fu Gs)/\∀n∈ns,n∈NN
theorem mu.set{b t:Nat}{NN:List Str}{A:Ar}{Gs:List aS}{c:C}(h:mu b NN A Gs)(e:t<b):mu b NN (A.set t c) Gs:=by
 obtain⟨gs,kvs,ns,h1,h2,a,d⟩:=h;exact⟨gs,kvs,ns,gi ω h1,h2.kI λq P z=>z.set ω,gi ω a,d⟩
theorem R3{kvs:List (Key×D)}{ns:List Str}(h:kvs.map (·.1)=ns.map Sum.inr):∃ps:List (Str×D),kvs=ps.map (λp=>((Sum.inr p.1:Key),p.2))/\ps.map (·.1)=ns:=by
 induction kvs generalizing ns with
 |nil=>
  cases ns with
  |nil=>exact⟨[],rfl,rfl⟩
  |cons _ _=>cases h
 |cons p kvs a=>
  cases ns with
  |nil=>cases h
  |cons m ns=>
   rw[cK,cK,List.cons.injEq] at h;obtain⟨ps,b,c⟩:=a h.2;exact⟨(m,p.2)::ps,by rw[cK,<-b,<-h.1],by rw[cK,c]⟩
theorem G_{kvs b:List (Key×D)}{ns ms:List Str}(h1:kvs.map (·.1)=ns.map Sum.inr)(h2:b.map (·.1)=ms.map Sum.inr)(c:ns.Nodup):∃a:List Str,(kK kvs b).map (·.1)=a.map Sum.inr/\a.Nodup/\∀n,n∈a↔n∈ns\/n∈ms:=by
 obtain⟨ps,d,e⟩:=R3 h2;obtain⟨a,k1,k2,k3⟩:=z8 ps kvs ns h1 c;refine⟨a,?_,k2,λn=>by rw[k3,e]⟩;unfold kK;rw[d];exact k1
theorem D5{Ts:List Tb}{NN:List Str}(hok:eV Ts NN):∀(f i:Nat) (P:aS),fV P NN->fV (dN Ts f i P) NN/\∃X,dN Ts f i P=P++X
 |0,i,P,h=>⟨h,[],by simp[dN]⟩
 |f+1,i,P,h=>by
  cases e:P[i]? with
  |none=>
   have:dN Ts (f+1) i P=P:=by
    show(match P[i]? with|some p=>dN Ts f (i+1) ((d9 Ts p.1).foldl cz P)|none=>P)=_;rw[e]
   rw[this];exact⟨h,[],θ⟩
  |some p=>
   rw[rG e];have key:∀(ss:List bz) (Q:aS),(∀s∈ss,s∈d9 Ts p.1)->fV Q NN->p.1∈aC Q->fV (ss.foldl cz Q) NN:=by
    intro ss;induction ss with
    |nil=>intro Q _ h _;exact h
    |cons s ss c=>
     intro Q b d a;obtain⟨T,g,_,j,k⟩:=n9.mp (b s (aT ..));refine c _ (λx l=>b x (bq _ l)) (d.add (by rw[j];exact a) (hok.sub T (cS g) _ k)) ?_;exact(rD Q s p.1).mpr (.inl a)
   have a:p.1∈aC P:=cX (cS e);obtain⟨h1,X,h2⟩:=D5 hok f (i+1) _ (key (d9 Ts p.1) P (λs h=>h) h a);obtain⟨Y,m⟩:=vC (d9 Ts p.1) P;exact⟨h1,Y++X,by rw[h2,m,List.append_assoc]⟩
theorem gQ{Ts:List Tb}{NN:List Str}(hok:eV Ts NN){n:Str}(a:n∈NN):fV (aO Ts n) NN/\n∈aC (aO Ts n)/\cJ (aO Ts n) n=[]:=by
 have h0:fV [(n,[])] NN:=⟨by simp[aC],λm b=>by
  have:m=n:=by simpa[aC] using b
  rw[this];exact a,λp c=>by
  have:p=(n,[]):=by simpa using c
  rw[this];simp⟩
 obtain⟨h1,X,h2⟩:=D5 hok 14 0 _ h0;have d:n∈aC [(n,([]:List bz))]:=by simp[aC]
 refine⟨h1,?_,?_⟩
 .show n∈aC (dN Ts 14 0 [(n,[])])
  rw[h2];simp[aC]
 .show cJ (dN Ts 14 0 [(n,[])]) n=[]
  rw[h2,GV d];simp[cJ]
theorem P7{Ts:List Tb}{NN:List Str}(hok:eV Ts NN){Gs:List aS}{n:Str}(a:n∈NN):n∈fu (cU Ts Gs n)/\∀m∈fu Gs,m∈fu (cU Ts Gs n):=by
 unfold cU;split
 .rename_i h
  exact⟨h,λ_ h=>h⟩
 .unfold fu
  rw[qO];refine⟨je _ ?_,λm b=>oK _ b⟩;simp;exact(gQ hok a).2.1
theorem F7{Ts:List Tb}{NN:List Str}(hok:eV Ts NN):∀(ns:List Str) (Gs:List aS),(∀n∈ns,n∈NN)->(∀n∈ns,n∈fu (ns.foldl (cU Ts) Gs))/\∀m∈fu Gs,m∈fu (ns.foldl (cU Ts) Gs)
 |[],Gs,_=>⟨(λ_ h=>by cases h),λ_ h=>h⟩
 |n::ns,Gs,h=>by
  obtain⟨k1,k2⟩:=P7 hok (Gs:=Gs) (h n (aT ..));obtain⟨b,a⟩:=F7 hok ns (cU Ts Gs n) λm hm=>h m (bq _ hm);refine⟨λm hm=>?_,λm hm=>a m (k2 m hm)⟩;rcases aY.mp hm with rfl|hm
  .exact a _ k1
  .exact b m hm
theorem vF{Ts:List Tb}{NN:List Str}(hok:eV Ts NN){T:Tb}(a:T∈Ts){n:Str}(b:n∈aH T):n∈fu (bG Ts):=by
 refine(F7 hok (Ts.flatMap aH) [] λm c=>?_).1 n (gz.mpr ⟨T,a,b⟩);obtain⟨d,h1,h2⟩:=gz.mp c;exact hok.sub d h1 m h2
theorem Aj(Ts:List Tb):∀(ns:List Str) (Gs:List aS),(ns.foldl (cU Ts) Gs).length<=Gs.length+ns.length
 |[],Gs=>aF _
 |n::ns,Gs=>by
  have h:=Aj Ts ns (cU Ts Gs n);have h2:(cU Ts Gs n).length<=Gs.length+1:=by
   unfold cU;split
   .omega
   .simp
  rw[gX,gm];omega
theorem Hg:∀(Ts:List Tb),(∀T∈Ts,T.length<=32)->(Ts.flatMap aH).length<=32*Ts.length
 |[],_=>by simp
 |T::Ts,h=>by
  have h1:=Hg Ts λq a=>h q (bq _ a);have h2:=h T (aT ..);have e:(aH T).length=T.length:=by simp[aH]
  rw[qP,cM,gm];omega
def uJ:Ct:=λds A R _=>∃r Ts NN,ds=[.ref r]/\iw A r Ts/\eV Ts NN/\∀A' q,Gr A A'->LG A.length A' q (bG Ts)->R (.ref q) A'
theorem TabsAt.fz{A:Ar}{t:Nat}{o:Obj}{T0:Tb}(h0:A[t]?=some (.dct (b_ T0))):∀{a:List Nat} {Ts:List Tb},TabsAt A a Ts->TabsAt (A.set t (.bw o (b_ T0))) a Ts
 |[],[],_=>trivial
 |q::qs,T::Ts,h=>by
  refine⟨?_,TabsAt.fz h0 h.2⟩;by_cases e:t=q
  .subst e
   rcases h.1 with h'|⟨o',h'⟩
   .rw[h0] at h'
    have b:b_ T0=b_ T:=by
     have h':=Option.some.inj h';injection h'
    exact .inr ⟨o,by rw[eF (cy h0),b]⟩
   .rw[h0] at h'
    cases h'
  .rcases h.1 with h'|⟨o',h'⟩
   .exact .inl (gi e h')
   .exact .inr ⟨o',gi e h'⟩
 |[],_::_,h=>h.elim
 |_::_,[],h=>h.elim
end DP
namespace My
open L2 DP MA
theorem OI(T:TopD K mg "groups" Jq p_)(b:aj P w K mg base 2 "paths_from" xq (ak mg 2 zj)):aj P w K mg base 3 "groups" p_ (ak mg 1 uJ):=by
 refine jQ T JV rfl δ λN RE f cdv B outer s H E hr hR hx ds A R h hl=>?_;have hu:=hr.units;have nd:=JV.nd;refine⟨_,(av (dS 1 nd (cE af))
  (av (dS 2 nd zO)
  (av (eH dM rfl (cA (vr 0)) (dG 3 nd) (ay (NJ (eH dM rfl (nN (vr 3)) (dG 4 nd) (ay (bJ (ql hu (vr 4) (vr 2)) (av (dS 5 nd (dL b hr hx (aa (vr 0) (aa (vr 4) af))))
  (av (c7 (EZ PySem.F.plainAttrs_dict slot_dict_update PySem.F.type_dict_update Hf ES (vr 2) (aa (vr 5) af)))
  (ay (c7 (gM gV jC jE iY jq (vr 1) (aa (vr 5) af)))))) bM))))))
  (ay (aN (vr 1)))))),?_⟩
 obtain⟨r,Ts,NN,rfl,hB,hok,q⟩:=h;obtain⟨I,h1,h2⟩:=id hB;have hz:(1000:Nat)<=sizeLine:=δ
 have e1:(A++[C.lst []]).length=A.length+1:=θ
 have g0:Gr A (A++[C.lst []]++[C.dct []]):=Gr.push.trans Gr.push;refine⟨bQ _,d7 (g0.get h1) ?_⟩;rw[e1];have nU:mu A.length NN (A++[C.lst []]++[C.dct []]) []:=⟨[],[],[],getElem?_push aE,trivial,by rw[<-e1];exact aE,rfl,oO,λn=>by simp[fu],λn h=>by cases h⟩;refine eG (λrest τ A'=>∃(i:Nat) (x y z:Option D),i<=I.length/\rest=(I.map D.ref).drop i/\τ=[some (.ref r),some (.ref A.length),some (.ref (A.length+1)),x,y,z]/\mu A.length NN A' (((Ts.take i).flatMap aH).foldl (cU Ts) [])/\Gr A A') ?_ ?_ ?_ _ _ _ ⟨0,none,none,none,bQ _,rfl,rfl,nU,g0⟩
 .rintro rest τ A' ⟨i,x,y,z,_,_,_,_,g⟩
  exact g.get h1
 .rintro v rest τ A1 ⟨i,x,y,z,hi,e,rfl,W,g⟩ Nx hN
  by_cases hlt:i<I.length
  .obtain⟨t,ht⟩:∃t,I[i]?=some t:=⟨I[i],a_ hlt⟩
   obtain⟨T0,hT,hA⟩:=h2.get ht;have Zw:=hA.gr g;have L:i<(I.map D.ref).length:=by rw[aK];exact hlt
   have ev:(I.map D.ref)[i]?=some (.ref t):=by rw[ck,ht];rfl
   rw[lY L] at e;rw[a_ L] at ev;have ev:=Option.some.inj ev;rw[ev] at e;cases e;have Gq:T0∈Ts:=cS hT;have tl:t<A.length:=by
    rcases hA with h'|⟨_,h'⟩
    .exact cy h'
    .exact cy h'
   have pP:(Ts.take (i+1)).flatMap aH=(Ts.take i).flatMap aH++aH T0:=by
    rw[take_succ,hT,qO];simp
   obtain⟨M,Q⟩:∃G,G=((Ts.take i).flatMap aH).foldl (cU Ts) []:=⟨_,rfl⟩;have O:((Ts.take (i+1)).flatMap aH).foldl (cU Ts) []=(aH T0).foldl (cU Ts) M:=by rw[pP,nD,Q]
   rw[<-Q] at W;have em:((b_ T0).map λp=>keyOf p.1)=(aH T0).map D.str:=GJ T0;have go:∀(o:Obj) (S B1:Ar) (Dn:nE),S.length=A.length->S[t]?=some (.bw o (b_ T0))->iw S r Ts->Gr S B1->mu A.length NN B1 M->(∀(Y:Ar) (y z:Option D),mu A.length NN Y ((aH T0).foldl (cU Ts) M)->Gr S Y->Dn.nx [some (.ref r),some (.ref A.length),some (.ref (A.length+1)),some (.ref t),y,z] Y)->
     IF (sd (h_ 3)) (gN 4) (IG (g_ (dO (inD true) (h_ 4) (h_ 2))) (Bw (tE 5 (zK 2 zj RE (rO (h_ 0) (rO (h_ 4) uZ)))) (Bw (Bv (EH B6 (h_ 2) (rO (h_ 5) uZ))) (Bv (EG zx (h_ 1) (rO (h_ 5) uZ))))) II) Dn [some (.ref r),some (.ref A.length),some (.ref (A.length+1)),some (.ref t),y,z] B1:=λo S B1 Dn ZG hf Qd g1 Qq fin=>by
    refine pZ (g1.get hf) ?_;rw[em];refine eG (λrest τ Z=>∃(dn a:List Str) (y z:Option D),rest=a.map D.str/\dn++a=aH T0/\τ=[some (.ref r),some (.ref A.length),some (.ref (A.length+1)),some (.ref t),y,z]/\mu A.length NN Z (dn.foldl (cU Ts) M)/\Gr S Z) ?_ ?_ ?_ _ _ _ ⟨[],aH T0,y,z,rfl,rfl,rfl,Qq,g1⟩
    .rintro rest τ Z ⟨_,_,_,_,_,_,_,_,g'⟩
     exact g'.get hf
    .rintro v rest τ Z ⟨dn,a,y,z,e,d,rfl,J,g'⟩ Zq Gf
     cases a with
     |nil=>cases e
     |cons n a=>
     cases e;have QH:n∈aH T0:=by rw[<-d];simp
     have Gj:n∈NN:=hok.sub T0 Gq n QH;have k:(dn++[n]).foldl (cU Ts) M=cU Ts (dn.foldl (cU Ts) M) n:=by rw[nD];rfl
     generalize Qg:dn.foldl (cU Ts) M=G3 at*
     obtain⟨gs,kvs,ns,k1,k2,k3,k4,k5,k6,k7⟩:=id J;refine iG k3 rfl ?_;rw[aA rfl,sA k4];refine cN (λc=>?_) (λc=>?_)
     .have U:n∉fu G3:=λz=>c ((k6 n).mpr z)
      obtain⟨xE,_,_⟩:=gQ hok Gj;refine⟨rfl,r,n,Ts,NN,rfl,Qd.gr g',hok,Gj,λY q2 u h2=>?_⟩;obtain⟨lq,l,m1,m2,m3⟩:=id h2;have lB:=cy k3;have ln:ns.length<=12:=cC (jS ns NN k5 k7) hok.nn;have Sj:kvs.length=ns.length:=by
       have:=cj List.length k4;simpa using this
      have Sk:l.length=(aO Ts n).length:=by
       have:=cj List.length m2;simpa[aC] using this
      have lP:=xE.len;have Th:=hok.nn;refine⟨Gx (u.get k3),KJ (u.get k3) m1 ω ω ?_⟩;have hb:=gi (i:=A.length+1) (j:=A.length) (c:=C.dct (kK kvs l)) ω (u.get k1);have p5:=k2.len;refine⟨gx hb,iP hb ?_ ?_⟩
      .rw[aK,p5]
       have l1:=Aj Ts dn M;have l2:=Aj Ts ((Ts.take i).flatMap aH) [];have l3:=Hg (Ts.take i) λT' An=>(hok.tok T' (qy An)).len;have l4:dn.length<=32:=by
        have h1:=cj List.length d;have h2:=(hok.tok T0 Gq).len;have e:(aH T0).length=T0.length:=by simp[aH]
        rw[cM] at h1;omega
       rw[kR] at l3;have h7:=hok.len;rw[Qg] at l1;rw[<-Q] at l2;rw[oJ,zero_add] at l2;omega
      obtain⟨ns',j1,j2,j3⟩:=G_ k4 m2 k5;have eg:cU Ts G3 n=G3++[aO Ts n]:=by unfold cU;rw[ao U]
      refine Gf _ _ ⟨dn++[n],a,_,_,rfl,by simpa using d,rfl,?_,?_⟩
      .rw[k,eg]
       refine⟨gs++[q2],_,ns',?_,?_,gi ω (tF (u.get k3)),j1,j2,λm=>?_,λm hm=>?_⟩
       .rw[dP]
        exact tF hb
       .refine fD.snoc ?_ (k2.kI λq P z=>((z.gr u).set ω).set ω)
        exact((h2.lo ω).set ω).set ω
       .rw[j3,k6]
        simp[fu]
       .rcases (j3 m).mp hm with h'|h'
        .exact k7 m h'
        .exact xE.sub m h'
      .exact(((g'.trans u).set ω).set ω)
     .have U:n∈fu G3:=(k6 n).mp c
      have eg:cU Ts G3 n=G3:=by unfold cU;rw[aA U]
      refine Gf _ _ ⟨dn++[n],a,_,_,rfl,by simpa using d,rfl,?_,g'⟩;rw[k,eg];exact J
    .rintro τ Z ⟨dn,a,y,z,e,d,rfl,J,g'⟩
     cases a with
     |cons _ _=>cases e
     |nil=>
     have d:dn=aH T0:=by simpa using d
     subst d;exact fin Z y z J g'
   rcases hA with hd|⟨o,hd⟩
   .refine .inl ⟨t,b_ T0,g.get hd,λo=>?_⟩
    have Zs:A1.set t (.bw o (b_ T0))=A1.set t (.bw o (b_ T0)):=rfl;have P_:Gr (A.set t (.bw o (b_ T0))) (A1.set t (.bw o (b_ T0))):=by
     obtain⟨X,rfl⟩:=g;exact⟨X,by rw[yj _ _ tl]⟩
    refine go o (A.set t (.bw o (b_ T0))) _ _ θ (eF tl) ⟨I,?_,h2.fz hd⟩ P_ (W.set tl) λY y z V u=>?_
    .have:t≠r:=λz=>by rw[z,h1] at hd;cases hd
     exact gi this h1
    .obtain⟨u1,u2⟩:=Ai hd u
     refine⟨b_ T0,u1,hN _ _ ⟨i+1,_,_,_,ω,rfl,rfl,?_,u2⟩⟩;rw[O];exact V.set tl
   .refine .inr (go o A _ _ rfl hd hB g W λY y z V u=>hN _ _ ⟨i+1,_,_,_,ω,rfl,rfl,?_,u⟩)
    rw[O];exact V
  .rw[qK (by rw[aK];omega)] at e
   cases e
 .rintro τ A1 ⟨i,x,y,z,hi,e,rfl,W,g⟩
  have hi:i=I.length:=by
   have:=cj List.length e;simp at this;omega
  have Sw:=h2.len;rw[hi,Sw,take_length] at W;obtain⟨gs,kvs,ns,k1,k2,_⟩:=W;exact q _ _ g ⟨aF _,gs,k1,k2.kI λq P z=>z.lo ω⟩
end My
namespace DP
open L2 MA
noncomputable def bwd(ss:List bz):List bz:=ss.reverse.map λs=>(s.1,s.2.2,s.2.1)
noncomputable def xN(Ts:List Tb)(i:Nat)(n:Str):Rat:=match Ts[i]? with
 |some T=>dz T n
 |none=>0
noncomputable def cG(Ts:List Tb)(s:bz):Rat:=xN Ts s.1 s.2.2/xN Ts s.1 s.2.1
noncomputable def dZ(Ts:List Tb)(ss:List bz):Rat:=ss.foldl (λx s=>x*cG Ts s) 1
def dY(Ts:List Tb)(s:bz):Prop:=∃T,Ts[s.1]?=some T/\s.2.1∈aH T/\s.2.2∈aH T
theorem lN{Ts:List Tb}{i:Nat}{T:Tb}(h:Ts[i]?=some T)(n:Str):xN Ts i n=dz T n:=by
 unfold xN;rw[h]
theorem s_{a b:Int}(d:0<a)(c:0<b):(rf ((a:Rat)/(b:Rat))).1<=a/\(rf ((a:Rat)/(b:Rat))).2<=b:=by
 rw[<-xJ c];exact⟨j8 _ (dR d),j8 _ (dR c)⟩
theorem V0{x y:Rat}(a:0<x)(b:0<y):(rf (x*y)).1<=(rf x).1*(rf y).1:=by
 rw[<-Iv];exact(s_ (f_ (d8 a) (d8 b)) (f_ (cR x) (cR y))).1
theorem E_{x y:Rat}(b:0<x)(a:0<y):x/y=(((rf x).1*(rf y).2:Int):Rat)/(((rf x).2*(rf y).1:Int):Rat):=by
 have h1:=iB (kW (cR x));have h2:=iB (kW (cR y));have c:=iB (kW (d8 a));conv=>lhs;rw[<-gh x,<-gh y]
 rw[j6,j6];grind
theorem Kc{Ts:List Tb}{s:bz}(e:∀T∈Ts,jM T)(h:dY Ts s):0<cG Ts s/\(rf (cG Ts s)).1<=4000000000000/\(rf (cG Ts s)).2<=4000000000000:=by
 obtain⟨T,h1,h2,f⟩:=h;have c:=e T (cS h1);have f2:=m8 c h2;have a:=m8 c f;unfold cG;rw[lN h1,lN h1];have p2:=d8 f2.pos;have g:=d8 a.pos;have d:=cR (dz T s.2.1);have i:=cR (dz T s.2.2);have b:0<dz T s.2.2/dz T s.2.1:=by
  rw[lW];exact nv a.pos (uv.mpr f2.pos)
 refine⟨b,?_⟩;rw[E_ a.pos f2.pos];obtain⟨k1,k2⟩:=s_ (f_ g d) (f_ i p2);have j:(rf (dz T s.2.2)).1*(rf (dz T s.2.1)).2<=2000000*2000000:=dQ a.num f2.den (dR d) δ;have k:(rf (dz T s.2.2)).2*(rf (dz T s.2.1)).1<=2000000*2000000:=dQ a.den f2.num (dR p2) δ;exact⟨ω,ω⟩
theorem Ey{Ts:List Tb}(a:∀T∈Ts,jM T):∀(ss:List bz) (x:Rat) (k:Nat),(∀s∈ss,dY Ts s)->0<x->(rf x).1<=(4000000000000:Int) ^ k->0<ss.foldl (λx s=>x*cG Ts s) x/\(rf (ss.foldl (λx s=>x*cG Ts s) x)).1<=(4000000000000:Int) ^ (k+ss.length)
 |[],x,k,_,h1,h2=>⟨h1,h2⟩
 |s::ss,x,k,b,h1,h2=>by
  obtain⟨p,q,_⟩:=Kc a (b s (aT ..));have c:(rf (x*cG Ts s)).1<=(4000000000000:Int) ^ (k+1):=by
   refine eB (V0 h1 p) ?_;rw[jB];exact dQ h2 q (dR (d8 p)) (pow_nonneg δ)
  have:=Ey a ss (x*cG Ts s) (k+1) (λy d=>b y (bq _ d)) (nv h1 p) c;rw[gX,gm,show k+(ss.length+1)=k+1+ss.length by omega];exact this
theorem Mr{Ts:List Tb}(a:∀T∈Ts,jM T){ss:List bz}(b:∀s∈ss,dY Ts s):0<dZ Ts ss/\(rf (dZ Ts ss)).1<=(4000000000000:Int) ^ ss.length:=by
 have:=Ey a ss 1 0 b δ (by rw[Bu];decide);rw[zero_add] at this;exact this
theorem uY(Ts:List Tb)(ss:List bz)(s:bz):dZ Ts (ss++[s])=dZ Ts ss*cG Ts s:=by
 unfold dZ;rw[nD];rfl
theorem GF{A:Ar}{t:Nat}{T:Tb}{n:Str}{R:DK}(h:TabAt A t T)(a:n∈aH T)(k:R (fq (dz T n)) A):lH t (.str n) A R:=by
 rcases h with h|⟨o,h⟩
 .exact fm h rfl (F4 a) k
 .exact su h rfl (F4 a) k
def C1:Ct:=λds A R _=>∃q ss,ds=[.ref q]/\A[q]?=some (.lst (ss.map cB))/\ss.length<=100/\∀A' p,Gr A A'->A'[p]?=some (.lst ((bwd ss).map cB))->A.length<=p->R (.ref p) A'
def za:Ct:=λds A R _=>∃r q Ts ss,ds=[.ref r,.ref q]/\iw A r Ts/\(∀T∈Ts,jM T)/\A[q]?=some (.lst (ss.map cB))/\(∀s∈ss,dY Ts s)/\ss.length<=45/\∀A',Gr A A'->R (fq (dZ Ts ss)) A'
theorem Vg{c k:Nat}(h:c ^ (k+1)<2 ^ 2000):(c:Int) ^ k*(c:Int)<2 ^ 2000:=by
 have e:(c:Int) ^ k*(c:Int)=((c ^ (k+1):Nat):Int):=by rw[qA,jB]
 rw[e];have h2:((2 ^ 2000:Nat):Int)=(2:Int) ^ 2000:=qA 2 2000;rw[<-h2];exact Int.ofNat_lt.mpr h
theorem Bd{k:Nat}(h:k<=45):(4000000000000:Int) ^ k*4000000000000<2 ^ 2000:=
 Vg (c:=4000000000000) (Nat.lt_of_le_of_lt (fj δ (show k+1<=46 by omega)) η)
noncomputable def n_(T:Tb):Str:=open Classical in if h:∃m,m∈aH T/\∀n∈aH T,¬n.cps.toList<m.cps.toList then Classical.choose h else default
theorem G9{T:Tb}{m:Str}(h1:m∈aH T)(h2:∀n∈aH T,¬n.cps.toList<m.cps.toList):n_ T=m:=by
 have h:∃m,m∈aH T/\∀n∈aH T,¬n.cps.toList<m.cps.toList:=⟨m,h1,h2⟩;have e:n_ T=Classical.choose h:=by unfold n_;rw[dif_pos h]
 obtain⟨k1,k2⟩:=Classical.choose_spec h;rw[e];generalize Classical.choose h=x at k1 k2;have a:=h2 x k1;have b:=k2 m h1;have c:x.cps.toList=m.cps.toList:=List.le_antisymm (not_lt.mp b) (not_lt.mp a);obtain⟨⟨x⟩⟩:=x;obtain⟨⟨m⟩⟩:=m;simp at c;rw[c]
noncomputable def jo(p:Tb×Nat):List bz:=(aH p.1).map (λo=>(p.2,n_ p.1,o))
noncomputable def lz(Ts:List Tb):List bz:=Ts.zipIdx.flatMap jo
def C5:Ct:=λds A R _=>∃r Ts,ds=[.ref r]/\iw A r Ts/\Ts.length<=7/\(∀T∈Ts,jM T)/\∀A' q,Gr A A'->A'[q]?=some (.lst ((lz Ts).map cB))->A.length<=q->R (.ref q) A'
theorem Es:∀(l:List (Tb×Nat)),(∀p∈l,p.1.length<=32)->(l.flatMap jo).length<=32*l.length
 |[],_=>by simp
 |p::l,h=>by
  have h1:=Es l λq a=>h q (bq _ a);have h2:(jo p).length<=32:=by
   unfold jo;rw[aK];have:=h p (aT ..);simpa[aH] using this
  rw[qP,cM,gm];omega
end DP
namespace My
open L2 DP MA
theorem Oq(T:TopD K mg "backward" I_ wK)(g:mg "reversed"=none):aj P w K mg base 1 "backward" wK (ak mg 1 C1):=by
 refine bF T WE λk l m n nd=>⟨_,(ay (aN (eY (some 3) (own:=["place","one","other"]) (frees:=[]) (ix:=[]) rfl (Nv g (aa (vr 0) af)) (λc=>(oA rfl (gR (pG 0 (show(["place","one","other"]:List Str).Nodup by decide+kernel)) (gR (pG 1 (show(["place","one","other"]:List Str).Nodup by decide+kernel)) (gR (pG 2 (show(["place","one","other"]:List Str).Nodup by decide+kernel)) oB))))) (λc=>(bW (aa (vr 0) (aa (vr 2) (aa (vr 1) af)))))))),λds A R h o=>?_⟩;obtain⟨p,ss,rfl,h1,i,q⟩:=h;have hz:(1000:Nat)<=sizeLine:=δ
 refine Av h1 ?_;refine iS (f:=λd=>match d with|.tup [a,b,c]=>.tup [a,c,b]|d=>d) h1 _ _ (λd hd=>?_) (by simp;omega) ?_
 .rw[List.mem_reverse] at hd
  obtain⟨st,_,rfl⟩:=aM.mp hd;exact⟨[.int ((st.1:Nat):Int),.str st.2.1,.str st.2.2],rfl,λQ j=>⟨show 3<=sizeLine by omega,j⟩⟩
 have e:((ss.map cB).reverse.map λd=>match d with|.tup [a,b,c]=>D.tup [a,c,b]|d=>d)=(bwd ss).map cB:=by
  unfold bwd;rw[<-List.map_reverse,bK,bK];rfl
 rw[fC,e];exact q _ _ Gr.push aE (aF _)
theorem OA(T:TopD K mg "comes_to" Jl sP)(k:aj P w K mg base 3 "product" ow (ak mg 2 kj))(i:aj P w K mg base 3 "quotient" qc (ak mg 2 (λds A R E=>∃a b c d:Int,ds=[.tup [.int a,.int b],.tup [.int c,.int d]]/\kj [.tup [.int a,.int b],.tup [.int d,.int c]] A R E))):aj P w K mg base 4 "comes_to" sP (ak mg 2 za):=by
 refine bF T WS λM hR N G nd=>⟨_,(av (dS 2 nd (bW (aa ai (aa ai af))))
  (av (eH dM rfl (cA (vr 1)) (ku rfl (dB (dG 3 nd) (dB (dG 4 nd) (dB (dG 5 nd) kB)))) (ay (dS 2 nd (dL k M N (aa (vr 2) (aa (dL i M N (aa (dX G (dX G (vr 0) (vr 3)) (vr 5)) (aa (dX G (dX G (vr 0) (vr 3)) (vr 4)) af))) af))))))
  (ay (aN (vr 2))))),λds A R h hl=>?_⟩
 obtain⟨r,Y,Ts,ss,rfl,Z,I,h1,O,Q,q⟩:=h;obtain⟨H,m,n⟩:=Z;have hz:(1000:Nat)<=sizeLine:=δ
 refine⟨show 2<=sizeLine by omega,d7 h1 ?_⟩;refine eG (λrest τ A'=>∃(dn f:List bz) (x y z:Option D),rest=f.map cB/\dn++f=ss/\τ=[some (.ref r),some (.ref Y),some (fq (dZ Ts dn)),x,y,z]/\Gr A A') ?_ ?_ ?_ _ _ _ ⟨[],ss,none,none,none,rfl,rfl,rfl,Gr.refl⟩
 .rintro rest τ A' ⟨_,_,_,_,_,_,_,_,g⟩
  exact g.get h1
 .rintro v rest τ A1 ⟨dn,f,x,y,z,e,j,rfl,g⟩ Nx hN
  cases f with
  |nil=>cases e
  |cons st f=>
  cases e;have o:=O st (by rw[<-j];simp);have J:∀s∈dn,dY Ts s:=λs h=>O s (by rw[<-j];simp[h]);obtain⟨c1,c2⟩:=Mr I J;obtain⟨S,d2,d3⟩:=Kc I o;have ldn:dn.length<=45:=by
   have:=cj List.length j;simp at this;omega
  obtain⟨T0,p,U,V⟩:=o;have L:st.1<H.length:=by rw[n.len];exact(bY.mp p).1
  obtain⟨t,u⟩:∃t,H[st.1]?=some t:=⟨H[st.1],a_ L⟩;obtain⟨T1,B,hA⟩:=n.get u;rw[p] at B;cases B;have C:=hA.gr g;have F:cY (H.map D.ref) ((st.1:Nat):Int)=some (.ref t):=mC (by rw[ck,u];rfl);have l:=I T0 (cS p);have f1:=m8 l U;have f2:=m8 l V;have p1:=d8 f1.pos;have p2:=d8 f2.pos;have W:=cR (dz T0 st.2.1);have X:=cR (dz T0 st.2.2);have DW:(2000000:Int)<2 ^ 64:=δ
  have n1:=f1.num;have n2:=f2.num;have k1:=f1.den;have k2:=f2.den;refine⟨rfl,kF (g.get m) F (GF C V (kF (g.get m) F (GF C U ?_)))⟩;refine⟨rfl,_,_,_,_,rfl,_,_,_,_,rfl,p2,X,W,p1,ω,ω,?_,λA2 g2=>?_⟩
  .have:(rf (dz T0 st.2.2)).1*(rf (dz T0 st.2.1)).2<=2000000*2000000:=dQ n2 k1 (dR W) δ
   exact qw (show _<=(4000000000000:Int) ^ 0*4000000000000 by rw[Int.pow_zero];omega) (Bd δ)
  have eq:((rf (dz T0 st.2.2)).1:Rat)/((rf (dz T0 st.2.2)).2:Rat)*(((rf (dz T0 st.2.1)).2:Rat)/((rf (dz T0 st.2.1)).1:Rat))=cG Ts st:=by
   unfold cG;rw[lN p,lN p,<-mul_div X p1,<-E_ f2.pos f1.pos]
  rw[eq];refine⟨rfl,_,_,_,_,rfl,d8 c1,cR _,d8 S,cR _,ω,ω,?_,λA3 g3=>?_⟩
  .refine qw ?_ (Bd ldn)
   exact dQ c2 d2 (dR (d8 S)) (pow_nonneg δ)
  rw[gh,gh];exact hN _ _ ⟨dn++[st],f,_,_,_,rfl,by simpa using j,by rw[uY];rfl,(g.trans g2).trans g3⟩
 .rintro τ A1 ⟨dn,f,x,y,z,e,j,rfl,g⟩
  cases f with
  |cons _ _=>cases e
  |nil=>
  have j:dn=ss:=by simpa using j
  subst j;exact q _ g
theorem Oz(T:TopD K mg "closing_steps" Jk wU)(a:mg "enumerate"=none)(k:mg "min"=none):aj P w K mg base 1 "closing_steps" wU (ak mg 1 C5):=by
 refine bF T WR λW X Y Z nd=>⟨_,(av (dS 1 nd (cE af))
  (av (eH dM rfl (E9 a (aa (vr 0) af)) (ku rfl (dB (dG 2 nd) (dB (dG 3 nd) kB))) (av (dS 4 nd (dI (Mh rfl) M_ k boot_min (aa (vr 3) af)))
  (ay (c7 (gM gV yk yr v7 u5 (vr 1) (aa (vd (eY none (own:=["other"]) (frees:=["place","first"]) (ix:=[2,4]) rfl (nN (vr 3)) (λc=>(pG 0 (show(["other","place","first"]:List Str).Nodup by decide+kernel))) (λc=>(bW (aa (vr 1) (aa (vr 2) (aa (vr 0) af))))))) af))))))
  (ay (aN (vr 1))))),λds A R h hl=>?_⟩
 obtain⟨r,Ts,rfl,J,h7,b,q⟩:=h;obtain⟨d,h1,h2⟩:=J;have hz:(1000:Nat)<=sizeLine:=δ
 have B:=h2.len;have C:∀T∈Ts,T.length<=32:=λT u=>(b T u).len;have len:∀i,((Ts.zipIdx.take i).flatMap jo).length<=224:=λi=>by
  have:=Es (Ts.zipIdx.take i) λp L=>by
   have:=uu.mp (qy L);exact C _ (cS this)
  rw[kR,yd] at this;omega
 refine⟨bQ _,Av (getElem?_push h1) ?_⟩;refine eG (λrest τ A'=>∃(i:Nat) (x y z:Option D),i<=d.length/\rest=(iF (d.map D.ref)).drop i/\τ=[some (.ref r),some (.ref A.length),x,y,z]/\A'[A.length]?=some (.lst (((Ts.zipIdx.take i).flatMap jo).map cB))/\Gr A A') ?_ ?_ ?_ _ _ _ ⟨0,none,none,none,bQ _,rfl,rfl,aE,Gr.push⟩
 .rintro rest τ A' ⟨i,x,y,z,_,_,_,_,g⟩
  exact g.get h1
 .rintro v rest τ M ⟨i,x,y,z,hi,e,rfl,hc,g⟩ Nx N
  by_cases l:i<d.length
  .obtain⟨t,I⟩:∃t,d[i]?=some t:=⟨d[i],a_ l⟩
   obtain⟨T0,u,O⟩:=h2.get I;have n:=O.gr g;have f:i<(iF (d.map D.ref)).length:=by rw[pO,aK];exact l
   have ev:=Fw (ds:=d.map D.ref) (i:=i) (x:=.ref t) (by rw[ck,I];rfl);rw[lY f] at e;rw[a_ f] at ev;have ev:=Option.some.inj ev;rw[ev] at e;cases e;have j:=b T0 (cS u);have E:((Ts.zipIdx.take (i+1)).flatMap jo)=((Ts.zipIdx.take i).flatMap jo)++jo (T0,i):=by
    rw[KS u,qO];simp
   have ln:=len i;have F:aH T0≠[]:=λz=>j.ne (by simpa[aH] using z);have S:=j.len;have G:(aH T0).length=T0.length:=by simp[aH]
   refine⟨rfl,SJ n (RZ T0) F λm U s=>?_⟩;have H:=G9 U s;refine⟨gx hc,FP (λo=>.tup [.int ((i:Nat):Int),.str m,o]) rfl n ω (λA' o ho Q V=>⟨show 3<=sizeLine by omega,V⟩) ?_⟩;refine vB (getElem?_push hc) aE (by rw[aK,aK,G];omega) ?_;have em:((aH T0).map λo=>D.tup [.int ((i:Nat):Int),.str m,.str o])=(jo (T0,i)).map cB:=by
    unfold jo;rw[bK,H];rfl
   refine N _ _ ⟨i+1,_,_,_,ω,rfl,rfl,?_,(g.trans Gr.push).set (aF _)⟩;rw[E,dP,em];exact get_set (getElem?_push hc)
  .rw[qK (by rw[pO,aK];omega)] at e
   cases e
 .rintro τ M ⟨i,x,y,z,hi,e,rfl,hc,g⟩
  have hi:i=d.length:=by
   have:=cj List.length e;simp[pO] at this;omega
  rw[hi,B,qD (by rw[yd];exact aF _)] at hc;exact q _ _ g hc (aF _)
end My
namespace DP
open L2 MA
noncomputable def iH(Gs:List aS)(n:Str):List bz:=Gs.foldl (λacc P=>if n∈aC P then cJ P n else acc) []
theorem Sl(Gs:List aS)(P:aS)(n:Str):iH (Gs++[P]) n=if n∈aC P then cJ P n else iH Gs n:=by
 unfold iH;rw[nD];rfl
noncomputable def i_(Ts:List Tb)(s:bz):List bz:=iH (bG Ts) s.2.1++[s]++bwd (iH (bG Ts) s.2.2)
noncomputable def i9(Ts:List Tb):Option (List bz):=((lz Ts).map (i_ Ts)).find? (λss=> !decide (dZ Ts ss=1))
theorem fD.get{lo:Nat}{A:Ar}:∀{qs:List Nat} {Ps:List aS} {i q:Nat},fD lo A qs Ps->qs[i]?=some q->∃P,Ps[i]?=some P/\gJ lo A q P
 |[],[],i,t,_,e=>by simp at e
 |t::a,T::Ts,0,_,h,e=>by
  simp at e;subst e;exact⟨T,rfl,h.1⟩
 |t::a,T::Ts,i+1,_,h,e=>by
  obtain⟨b,h1,h2⟩:=fD.get (i:=i) h.2 (by simpa using e);exact⟨b,by simpa using h1,h2⟩
 |[],_::_,_,_,h,_=>h.elim
 |_::_,[],_,_,h,_=>h.elim
theorem F8{Ts:List Tb}:∀(ns:List Str) (Gs:List aS) (P:aS),P∈ns.foldl (cU Ts) Gs->P∈Gs\/∃n∈ns,P=aO Ts n
 |[],Gs,P,h=>.inl h
 |n::ns,Gs,P,h=>by
  rcases F8 ns (cU Ts Gs n) P h with h|⟨m,h1,h2⟩
  .unfold cU at h
   split at h
   .exact .inl h
   .rcases bX.mp h with h|h
    .exact .inl h
    .exact .inr ⟨n,aT ..,bI.mp h⟩
  .exact .inr ⟨m,bq _ h1,h2⟩
theorem iV{Ts:List Tb}{NN:List Str}(hok:eV Ts NN){P:aS}(h:P∈bG Ts):∃n∈NN,(∃T∈Ts,n∈aH T)/\P=aO Ts n:=by
 rcases F8 _ _ P h with h|⟨n,h1,h2⟩
 .cases h
 .obtain⟨T,a,b⟩:=gz.mp h1
  exact⟨n,hok.sub T a n b,⟨T,a,b⟩,h2⟩
theorem D6{Ts:List Tb}:∀(f i:Nat) (P:aS),(∀p∈P,∀s∈p.2,dY Ts s)->∀p∈dN Ts f i P,∀s∈p.2,dY Ts s
 |0,i,P,h=>h
 |f+1,i,P,h=>by
  cases e:P[i]? with
  |none=>
   have:dN Ts (f+1) i P=P:=by
    show(match P[i]? with|some p=>dN Ts f (i+1) ((d9 Ts p.1).foldl cz P)|none=>P)=_;rw[e]
   rw[this];exact h
  |some d=>
   rw[rG e];refine D6 f (i+1) _ ?_;have key:∀(ss:List bz) (Q:aS),(∀s∈ss,s∈d9 Ts d.1)->(∀p∈Q,∀s∈p.2,dY Ts s)->∀p∈ss.foldl cz Q,∀s∈p.2,dY Ts s:=by
    intro ss;induction ss with
    |nil=>intro Q _ h;exact h
    |cons s ss g=>
     intro Q b a;refine g _ (λx j=>b x (bq _ j)) λp hp s' hs'=>?_;unfold cz at hp;split at hp
     .exact a p hp s' hs'
     .rcases bX.mp hp with hp|hp
      .exact a p hp s' hs'
      .rw[bI.mp hp] at hs'
       rcases bX.mp hs' with hs'|hs'
       .by_cases c:s.2.1∈aC Q
        .exact a _ (kG c) s' hs'
        .have k:cJ Q s.2.1=[]:=by
          have:=find_some (T:=Q) (n:=s.2.1);rw[gu (show ¬s.2.1∈Q.map (·.1) from c)] at this;unfold cJ;cases e:Q.find? (λp=>decide (p.1=s.2.1)) with
          |none=>rfl
          |some p=>rw[e] at this;cases this
         rw[k] at hs';cases hs'
       .rw[bI.mp hs']
        obtain⟨T,h1,h2,l,m⟩:=n9.mp (b s (aT ..));exact⟨T,h1,by rw[l];exact h2,m⟩
   exact key _ _ (λs h=>h) h
theorem xD{Ts:List Tb}{n:Str}:∀p∈aO Ts n,∀s∈p.2,dY Ts s:=
 D6 14 0 _ λp b s a=>by
  have:p=(n,[]):=by simpa using b
  rw[this] at a;cases a
theorem GU{Ts:List Tb}{NN:List Str}(hok:eV Ts NN)(n:Str):∀(Gs:List aS) (acc:List bz),(∀P∈Gs,P∈bG Ts)->((∀s∈acc,dY Ts s)/\acc.length<=NN.length - 1)->(∀s∈Gs.foldl (λacc P=>if n∈aC P then cJ P n else acc) acc,dY Ts s)/\(Gs.foldl (λacc P=>if n∈aC P then cJ P n else acc) acc).length<=NN.length - 1
 |[],acc,_,h=>h
 |P::Gs,acc,h,c=>by
  rw[gX];refine GU hok n Gs _ (λQ d=>h Q (bq _ d)) ?_;split
  .rename_i e
   obtain⟨m,f,_,rfl⟩:=iV hok (h P (aT ..));obtain⟨b,_,_⟩:=gQ hok f;have a:=kG e;refine⟨xD _ a,?_⟩;have h1:=b.pl _ a;have h2:=b.len;simp at h1;omega
  .exact c
theorem vS{Ts:List Tb}{NN:List Str}(hok:eV Ts NN)(Gs:List aS)(n:Str)(h:∀P∈Gs,P∈bG Ts):(∀s∈iH Gs n,dY Ts s)/\(iH Gs n).length<=NN.length - 1:=
 GU hok n Gs [] h ⟨(λs h=>by cases h),bQ _⟩
theorem L6{Ts:List Tb}{ss:List bz}(h:∀s∈ss,dY Ts s):∀s∈bwd ss,dY Ts s:=λs d=>by
 unfold bwd at d;obtain⟨s',h1,rfl⟩:=aM.mp d;obtain⟨T,a,b,c⟩:=h s' (List.mem_reverse.mp h1);exact⟨T,a,c,b⟩
theorem zG{Ts:List Tb}{s:bz}(h:s∈lz Ts):∃T,Ts[s.1]?=some T/\s.2.1=n_ T/\s.2.2∈aH T:=by
 unfold lz at h;obtain⟨⟨T,i⟩,a,b⟩:=gz.mp h;have a:=uu.mp a;unfold jo at b;obtain⟨o,c,rfl⟩:=aM.mp b;exact⟨T,a,rfl,c⟩
theorem AQ{T:Tb}(h:T≠[]):n_ T∈aH T/\∀n∈aH T,¬n.cps.toList<(n_ T).cps.toList:=by
 have key:∀ns:List Str,ns≠[]->∃m,m∈ns/\∀n∈ns,¬n.cps.toList<m.cps.toList:=by
  intro ns;induction ns with
  |nil=>intro h;exact absurd rfl h
  |cons a ns c=>
   intro _;by_cases hn:ns=[]
   .subst hn
    exact⟨a,θ,λn hn=>by
     have:n=a:=by simpa using hn
     rw[this];exact j5 _⟩
   .obtain⟨m,h1,h2⟩:=c hn
    by_cases b:a.cps.toList<m.cps.toList
    .refine⟨a,θ,λn hn=>?_⟩
     rcases aY.mp hn with rfl|hn
     .exact j5 _
     .exact λz=>h2 n hn (ur z b)
    .refine⟨m,by simp[h1],λn hn=>?_⟩
     rcases aY.mp hn with rfl|hn
     .exact b
     .exact h2 n hn
 obtain⟨m,h1,h2⟩:=key (aH T) (λz=>h (by simpa[aH] using z));rw[G9 h1 h2];exact⟨h1,h2⟩
theorem V1{Ts:List Tb}{NN:List Str}(hok:eV Ts NN){s:bz}(h:s∈lz Ts):(∀x∈i_ Ts s,dY Ts x)/\(i_ Ts s).length<=2*(NN.length - 1)+1:=by
 obtain⟨T,h1,h2,a⟩:=zG h;have b:=cS h1;obtain⟨a1,a2⟩:=vS hok (bG Ts) s.2.1 λP h=>h;obtain⟨c,e⟩:=vS hok (bG Ts) s.2.2 λP h=>h;have d:dY Ts s:=⟨T,h1,by rw[h2];exact(AQ (hok.tok T b).ne).1,a⟩;unfold i_;constructor
 .intro x hx
  rcases bX.mp hx with hx|hx
  .rcases bX.mp hx with hx|hx
   .exact a1 x hx
   .rw[bI.mp hx]
    exact d
  .exact L6 c x hx
 .simp[bwd]
  omega
def DC:Ct:=λds A R _=>∃r Ts NN,ds=[.ref r]/\iw A r Ts/\eV Ts NN/\(i9 Ts=none->∀A',Gr A A'->R .aG A')/\∀ss,i9 Ts=some ss->∀A' q,Gr A A'->A'[q]?=some (.lst (ss.map cB))->A.length<=q->R (.ref q) A'
def Dw:Ct:=λds A R E=>∃r Ts NN,ds=[.ref r]/\iw A r Ts/\eV Ts NN/\(i9 Ts=none->∀A',Gr A A'->R .aG A')/\(i9 Ts≠none->∀A',Gr A A'->E "Never" A')
theorem AR:∀(a kvs:List (Key×D)) (k:Key),(a.map (·.1)).Nodup->br (kK kvs a) k=match br a k with|some v=>some v|none=>br kvs k
 |[],kvs,k,_=>rfl
 |p::a,kvs,k,c=>by
  have b:=iK.mp (show(p.1::a.map (·.1)).Nodup from c);show br (kK (b5 kvs p.1 p.2) a) k=_;rw[AR a _ k b.2,pU];show _=match (if p.1=k then some p.2 else br a k) with|some v=>some v|none=>br kvs k
  by_cases e:p.1=k
  .rw[aA e,aA e]
   have:br a k=none:=by
    cases h:br a k with
    |none=>rfl
    |some v=>
     exfalso;refine b.1 ?_;rw[e];clear AR c b;induction a with
     |nil=>cases h
     |cons q a f=>
      have h:(if q.1=k then some q.2 else br a k)=some v:=h;by_cases d:q.1=k
      .simp[d]
      .rw[ao d] at h
       simp[f h]
   rw[this]
  .rw[ao e,ao e]
def qZ(b:Nat)(NN:List Str)(A:Ar)(Gs:List aS):Prop:=∃(kvs:List (Key×D)) (ns:List Str),A[b]?=some (.dct kvs)/\kvs.map (·.1)=ns.map Sum.inr/\ns.Nodup/\(∀n,n∈ns↔n∈fu Gs)/\(∀n∈ns,n∈NN)/\∀n∈ns,∃a,b<a/\br kvs (Sum.inr n)=some (.ref a)/\A[a]?=some (.lst ((iH Gs n).map cB))
theorem qZ.gr{b:Nat}{NN:List Str}{A B:Ar}{Gs:List aS}(h:qZ b NN A Gs)(g:Gr A B):qZ b NN B Gs:=by
 obtain⟨kvs,ns,h1,h2,c,d,e,f⟩:=h;exact⟨kvs,ns,g.get h1,h2,c,d,e,λn i=>by obtain⟨a,x,y,z⟩:=f n i;exact⟨a,x,y,g.get z⟩⟩
theorem Hj{ns:List Str}(h:ns.Nodup):(ns.map (Sum.inr:Str->Key)).Nodup:=by
 exact Pairwise.map _ (λa b c e=>c (Sum.inr.inj e)) h
end DP
namespace My
open L2 DP MA
theorem Ph(T:TopD K mg "find_ring" Jm wV)(l:aj P w K mg base 3 "groups" p_ (ak mg 1 uJ))(d:aj P w K mg base 1 "closing_steps" wU (ak mg 1 C5))(f:aj P w K mg base 1 "backward" wK (ak mg 1 C1))(j:aj P w K mg base 4 "comes_to" sP (ak mg 2 za)):aj P w K mg base 5 "find_ring" wV (ak mg 1 DC):=by
 refine bF T WT λW hR X J nd=>⟨_,(av (dS 1 nd zO)
  (av (eH dM rfl (cA (dL l W X (aa (vr 0) af))) (dG 2 nd) (ay (c7 (EZ PySem.F.plainAttrs_dict slot_dict_update PySem.F.type_dict_update Hf ES (vr 1) (aa (vr 2) af)))))
  (av (eH dM rfl (cA (dL d W X (aa (vr 0) af))) (dG 3 nd) (av (dS 4 nd (c6 (c6 (dX J (vr 1) (dX J (vr 3) ai)) (cE (aa (vr 3) af))) (dL f W X (aa (dX J (vr 1) (dX J (vr 3) ai)) af))))
  (ay (bJ (jV J (dL j W X (aa (vr 0) (aa (vr 4) af))) (bW (aa ai (aa ai af)))) (ay (aN (vr 4))) bM))))
  (ay (aN jP))))),λds A R h hl=>?_⟩
 obtain⟨r,Ts,NN,rfl,hB,hok,q1,q2⟩:=h;have hz:(1000:Nat)<=sizeLine:=δ
 have e1:(A++[C.dct []]).length=A.length+1:=θ
 refine⟨rfl,r,Ts,NN,rfl,hB.gr Gr.push,hok,λA1 q0 g1 hG=>?_⟩;obtain⟨lq,gs,L,B⟩:=hG;rw[e1] at lq B;have p5:=B.len;have Qh:qZ A.length NN A1 []:=⟨[],[],g1.get aE,rfl,oO,λn=>by simp[fu],(λn h=>by cases h),(λn h=>by cases h)⟩;have PV:Gr A A1:=Gr.push.trans g1;refine d7 L ?_;refine eG (λrest τ A'=>∃(i:Nat) (x:Option D),i<=gs.length/\rest=(gs.map D.ref).drop i/\τ=[some (.ref r),some (.ref A.length),x,none,none]/\qZ A.length NN A' ((bG Ts).take i)/\A'[q0]?=some (.lst (gs.map D.ref))/\fD (A.length+1) A' gs (bG Ts)/\Gr A A') ?_ ?_ ?_ _ _ _ ⟨0,none,bQ _,rfl,rfl,Qh,L,B,PV⟩
 .rintro rest τ A' ⟨_,_,_,_,_,_,h,_,_⟩
  exact h
 .rintro v rest τ A2 ⟨i,x,hi,e,rfl,Y,hq,hP,E⟩ Nx hN
  by_cases M:i<gs.length
  .obtain⟨t,ht⟩:∃t,gs[i]?=some t:=⟨gs[i],a_ M⟩
   obtain⟨P0,N,Qm⟩:=hP.get ht;have u:i<(gs.map D.ref).length:=by rw[aK];exact M
   have ev:(gs.map D.ref)[i]?=some (.ref t):=by rw[ck,ht];rfl
   rw[lY u] at e;rw[a_ u] at ev;have ev:=Option.some.inj ev;rw[ev] at e;cases e;obtain⟨m,hm,_,eP⟩:=iV hok (cS N);obtain⟨p,_,_⟩:=gQ hok hm;rw[<-eP] at p;obtain⟨Sv,b,m1,Z,m3⟩:=id Qm;obtain⟨kvs,ns,k1,k2,k3,k4,k5,k6⟩:=Y;have pP:(bG Ts).take (i+1)=(bG Ts).take i++[P0]:=by rw[take_succ,N];rfl
   have ln:ns.length<=12:=cC (jS ns NN k3 k5) hok.nn;have Sj:kvs.length=ns.length:=by
    have:=cj List.length k2;simpa using this
   have Sk:b.length=P0.length:=by
    have:=cj List.length Z;simpa[aC] using this
   have lP:=p.len;have Th:=hok.nn;obtain⟨ns',j1,j2,j3⟩:=G_ k2 Z k3;have SQ:(b.map (·.1)).Nodup:=by rw[Z];exact Hj p.nd
   refine⟨Gx k1,KJ k1 m1 ω ω ?_⟩;refine hN _ _ ⟨i+1,_,ω,rfl,rfl,?_,gi ω hq,hP.kI λq P z=>z.set ω,E.set (aF _)⟩;rw[pP];refine⟨_,ns',tF k1,j1,j2,λn=>?_,λn hn=>?_,λn hn=>?_⟩
   .rw[j3,k4]
    simp[fu]
   .rcases (j3 n).mp hn with h'|h'
    .exact k5 n h'
    .exact p.sub n h'
   .rw[AR _ _ _ SQ,Sl]
    by_cases o:n∈aC P0
    .obtain⟨a,z,ga,ha⟩:=m3 n o
     rw[ga,aA o];exact⟨a,ω,rfl,gi ω ha⟩
    .have hn1:n∈ns:=by
      rcases (j3 n).mp hn with h'|h'
      .exact h'
      .exact absurd h' o
     have e0:br b (Sum.inr n)=none:=by
      have:=sA (n:=n) Z;rw[gu o] at this;cases e:br b (Sum.inr n) with
      |none=>rfl
      |some v=>rw[e] at this;cases this
     obtain⟨a,z,ga,ha⟩:=k6 n hn1;rw[e0,ao o];exact⟨a,z,ga,gi ω ha⟩
  .rw[qK (by rw[aK];omega)] at e
   cases e
 rintro τ A2 ⟨i,x,hi,e,rfl,Y,hq,hP,E⟩;have hi:i=gs.length:=by
  have:=cj List.length e;simp at this;omega
 rw[hi,p5,take_length] at Y;refine⟨rfl,r,Ts,rfl,hB.gr E,hok.len,hok.tok,λA3 q3 g3 h3 l3=>?_⟩;refine d7 h3 ?_;refine eG (λrest τ A'=>∃(dn b:List bz) (y z:Option D),rest=b.map cB/\dn++b=lz Ts/\(∀s∈dn,dZ Ts (i_ Ts s)=1)/\τ=[some (.ref r),some (.ref A.length),x,y,z]/\Gr A3 A') ?_ ?_ ?_ _ _ _ ⟨[],lz Ts,none,none,rfl,rfl,(λ_ h=>by cases h),rfl,Gr.refl⟩
 .rintro rest τ A' ⟨_,_,_,_,_,_,_,_,g⟩
  exact g.get h3
 .rintro v rest τ A4 ⟨dn,b,y,z,e,k,h1,rfl,I⟩ Nx hN
  cases b with
  |nil=>cases e
  |cons st b=>
  cases e;have O:st∈lz Ts:=by rw[<-k];simp
  obtain⟨T0,hT,c1,c2⟩:=zG O;have G:=cS hT;have n1:st.2.1∈fu (bG Ts):=vF hok G (by rw[c1];exact(AQ (hok.tok T0 G).ne).1);have n2:st.2.2∈fu (bG Ts):=vF hok G c2;obtain⟨kvs,ns,k1,k2,k3,k4,k5,k6⟩:=Y.gr (g3.trans I);obtain⟨a1,_,PZ,ha1⟩:=k6 _ ((k4 _).mpr n1);obtain⟨a2,_,P1,ha2⟩:=k6 _ ((k4 _).mpr n2);obtain⟨_,b1⟩:=vS hok (bG Ts) st.2.1 λP h=>h;obtain⟨_,b2⟩:=vS hok (bG Ts) st.2.2 λP h=>h;obtain⟨r1,r2⟩:=V1 hok O;have nn:=hok.nn;refine fm k1 rfl PZ ⟨show 1<=sizeLine by omega,iR (getElem?_push ha1) aE (by simp;omega) ?_⟩;refine fm (getElem?_push (getElem?_push k1)) rfl P1 ?_;refine⟨rfl,a2,_,rfl,getElem?_push (getElem?_push ha2),ω,λA5 q5 g5 h5 l5=>?_⟩;have Q:A5[(A4++[C.lst [cB st]]).length]?=some (.lst ((iH (bG Ts) st.2.1).map cB++[cB st])):=g5.get aE;have ZU:(bwd (iH (bG Ts) st.2.2)).length<=11:=by simp[bwd];omega
  refine iR Q h5 (by simp;omega) ?_;have em:(iH (bG Ts) st.2.1).map cB++[cB st]++(bwd (iH (bG Ts) st.2.2)).map cB=(i_ Ts st).map cB:=by
   unfold i_;simp
  rw[em];have S:Gr A4 (A5++[C.lst ((i_ Ts st).map cB)]):=((Gr.push.trans Gr.push).trans g5).trans Gr.push;have U:=(g3.trans I).trans S;refine⟨rfl,r,A5.length,Ts,i_ Ts st,rfl,hB.gr (E.trans U),hok.tok,aE,r1,ω,λA6 g6=>⟨show 2<=sizeLine by omega,v9 (y:=1) ?_⟩⟩;refine cN (λc=>?_) (λc=>?_)
  .have er:i9 Ts=some (i_ Ts st):=by
    unfold i9;rw[<-k,dP,find?_append,cK];have e0:(dn.map (i_ Ts)).find? (λss=> !decide (dZ Ts ss=1))=none:=by
     rw[o4];intro ss H;obtain⟨s,V,rfl⟩:=aM.mp H;simp[h1 s V]
    rw[e0,List.find?_cons_of_pos (by simpa using c)];rfl
   have ll:=(E.trans (g3.trans I)).len;have R5:=g5.len;simp at R5;exact q2 _ er A6 _ ((E.trans U).trans g6) (g6.get aE) ω
  .refine hN _ _ ⟨dn++[st],b,_,_,rfl,by simpa using k,λs V=>?_,rfl,(I.trans S).trans g6⟩
   rcases bX.mp V with h'|h'
   .exact h1 s h'
   .rw[bI.mp h']
    exact c
 .rintro τ A4 ⟨dn,b,y,z,e,k,h1,rfl,I⟩
  cases b with
  |cons _ _=>cases e
  |nil=>
  have k:dn=lz Ts:=by simpa using k
  subst k;refine q1 ?_ _ ((E.trans g3).trans I);unfold i9;rw[o4];intro ss H;obtain⟨s,V,rfl⟩:=aM.mp H;simp[h1 s V]
theorem O6(T:TopD K mg "check_no_ring" Jf wN){b:Addr}(c:mg "Never"=some (.ref b))(d:excIn K b jW "ValueError.__new__"=true)(a:aj P w K mg base 5 "find_ring" wV (ak mg 1 DC)):aj P w K mg base 6 "check_no_ring" wN (ak mg 1 Dw):=by
 refine bF T WL λi j k o nd=>⟨_,(ay (bJ (qk (dL a i k (aa (vr 0) af)) jP) (ay (jr j rfl c d (aa bE af))) bM)),λds A R h p=>?_⟩;obtain⟨r,Ts,NN,rfl,l,hok,m,n⟩:=h;exact⟨rfl,r,Ts,NN,rfl,l,hok,λe f g=>m e f g,λss e f q g h1 l1=>⟨show 1<=sizeLine by decide,n (by rw[e];simp) f g⟩⟩
end My
namespace DP
open L2 MA
noncomputable def i8(T:Tb)(n:Str)(x:Rat):Tb:=if (T.any λp=>decide (p.1=n))=true then T.map (λp=>if p.1=n then (p.1,x) else p) else T++[(n,x)]
noncomputable def aQ(m:M):Tb:=(bC m "" 1).foldl (λT p=>i8 T p.2.1 p.2.2) []
theorem R0(T:Tb)(n:Str)(x:Rat):b_ (i8 T n x)=b5 (b_ T) (Sum.inr n) (fq x):=by
 have e:((b_ T).any λa=>decide (a.1=(Sum.inr n:Key)))=T.any λp=>decide (p.1=n):=by
  unfold b_;rw[any_map];congr 1;funext p;show decide ((Sum.inr p.1:Key)=Sum.inr n)=decide (p.1=n);by_cases h:p.1=n
  .rw[eL h,eL (by rw[h])]
  .rw[gu h,gu (λz=>h (Sum.inr.inj z))]
 unfold i8 b5;rw[e];split
 .unfold b_
  rw[bK,bK];refine tZ λp _=>?_;show((Sum.inr (if p.1=n then (p.1,x) else p).1:Key),fq (if p.1=n then (p.1,x) else p).2)=if (Sum.inr p.1:Key)=Sum.inr n then (Sum.inr p.1,fq x) else (Sum.inr p.1,fq p.2)
  by_cases h:p.1=n
  .rw[aA h,aA (by rw[h])]
  .rw[ao h,ao (λz=>h (Sum.inr.inj z))]
 .unfold b_
  simp
theorem GI:∀(a:List (Str×Str×Rat)) (T:Tb),b_ (a.foldl (λT p=>i8 T p.2.1 p.2.2) T)=((a.map λp=>(p.2.1,fq p.2.2)).map λp=>((Sum.inr p.1:Key),p.2)).foldl (λacc p=>b5 acc p.1 p.2) (b_ T)
 |[],T=>rfl
 |p::a,T=>by
  rw[gX,GI a,R0];rfl
theorem HX(T:Tb)(n:Str)(x:Rat):aH (i8 T n x)=if n∈aH T then aH T else aH T++[n]:=by
 have e:(T.any λp=>decide (p.1=n))=decide (n∈aH T):=by
  rw[kQ,jD,nC];constructor
  .rintro ⟨p,a,h⟩
   rw[<-gD h];exact cX a
  .intro h
   obtain⟨p,a,e⟩:=aM.mp h;exact⟨p,a,eL e⟩
 unfold i8;rw[e];by_cases h:n∈aH T
 .rw[aA (eL h),aA h]
  unfold aH;rw[bK];refine tZ λp _=>?_;show(if p.1=n then (p.1,x) else p).1=p.1;split<;>rfl
 .rw[ao (by simpa using h),ao h]
  simp[aH]
theorem FN:∀(c:List (Str×Str×Rat)) (T:Tb) (g:Str->Rat),(aH T).Nodup->(∀p∈T,p.2=g p.1)->(∀r∈c,r.2.2=g r.2.1)->
  (aH (c.foldl (λT p=>i8 T p.2.1 p.2.2) T)).Nodup/\(∀p∈c.foldl (λT p=>i8 T p.2.1 p.2.2) T,p.2=g p.1)/\∀n,n∈aH (c.foldl (λT p=>i8 T p.2.1 p.2.2) T)↔n∈aH T\/n∈c.map (·.2.1)
 |[],T,g,h1,h2,_=>⟨h1,h2,λn=>θ⟩
 |r::c,T,g,h1,h2,i=>by
  have k1:(aH (i8 T r.2.1 r.2.2)).Nodup:=by
   rw[HX];split
   .exact h1
   .rename_i k
    rw[oM];refine⟨h1,θ,λa l b j=>?_⟩;simp at j;rw[j];exact λz=>k (by rw[<-z];exact l)
  have k2:∀p∈i8 T r.2.1 r.2.2,p.2=g p.1:=λp hp=>by
   have e:=i r (aT ..);unfold i8 at hp;split at hp
   .obtain⟨d,f,rfl⟩:=aM.mp hp
    by_cases hc:d.1=r.2.1
    .rw[aA hc]
     show r.2.2=g d.1;rw[e,hc]
    .rw[ao hc]
     exact h2 d f
   .rcases bX.mp hp with hp|hp
    .exact h2 p hp
    .rw[bI.mp hp]
     exact e
  obtain⟨m,o,q⟩:=FN c _ g k1 k2 λx s=>i x (bq _ s);refine⟨m,o,λn=>?_⟩;rw[gX,q,HX];by_cases h:r.2.1∈aH T
  .rw[aA h]
   simp;constructor
   .rintro (h'|h')
    .exact .inl h'
    .exact .inr (.inr h')
   .rintro (h'|rfl|h')
    .exact .inl h'
    .exact .inl h
    .exact .inr h'
  .rw[ao h]
   simp[or_assoc]
structure Hl(m:M):Prop where
 wf:Wf m
 deep:m.deep<=5
 bar:cP [] (bC m "" 1)=none
theorem lQ{m:M}(h:Hl m):jM (aQ m)/\(∀n,n∈aH (aQ m)↔n∈m.names)/\∀n∈aH (aQ m),dz (aQ m) n=shr m n:=by
 obtain⟨k1,k2⟩:=BE h.bar;obtain⟨d,f,g⟩:=FN (bC m "" 1) [] (shr m) oO (λp a=>by cases a) k1;have i:(bC m "" 1).map (·.2.1)=m.names:=tG m "" 1;have mem:∀n,n∈aH (aQ m)↔n∈m.names:=λn=>by
  show n∈aH ((bC m "" 1).foldl (λT p=>i8 T p.2.1 p.2.2) [])↔_;rw[g,i];simp[aH]
 have j:(aH (aQ m)).length=(aQ m).length:=by simp[aH]
 have nl:=iZ h.deep;refine⟨⟨d,λz=>?_,?_,λp a=>?_⟩,mem,λn c=>?_⟩
 .have b:=aX.oh m
  cases e:m.names with
  |nil=>rw[e] at b;simp at b
  |cons n t=>
   have:=(mem n).mpr (by rw[e];simp);rw[z] at this;cases this
 .have:=jS (aH (aQ m)) m.names d λx k=>(mem x).mp k
  omega
 .have e:p.2=shr m p.1:=f p a
  rw[e];exact xO h.wf.arms h.deep h.bar ((mem p.1).mp (cX a))
 .have:=find_some (T:=aQ m) (n:=n)
  rw[eL (show n∈(aQ m).map (·.1) from c)] at this;obtain⟨p,a⟩:=qq.mp this;unfold dz;rw[a];have h2:=find?_some a;have l:p.1=n:=gD h2;rw[<-l];exact f p (ni a)
def Dz:Ct:=λds A R _=>∃m,ds=[enc m]/\Hl m/\∀A' q,Gr A A'->A'[q]?=some (.dct (b_ (aQ m)))->A.length<=q->R (.ref q) A'
def iz(x:D)(ms:List M):Prop:=x=.tup (ms.map enc)/\1<=ms.length/\ms.length<=6/\∀m∈ms,Hl m
def C3:Ct:=λds A R E=>∃x,ds=[x]/\(∃ms,iz x ms)/\((∃ms,iz x ms)->∀A',Gr A A'->R .aG A')/\((¬∃ms,iz x ms)->∀A',Gr A A'->E "NoHall" A')
def zd:Ct:=λds A R E=>∃x,ds=[x]/\(∃ms,iz x ms)/\(∀ms,iz x ms->∀A' q,Gr A A'->iw A' q (ms.map aQ)->A.length<=q->R (.ref q) A')/\((¬∃ms,iz x ms)->∀A',Gr A A'->E "NoHall" A')
theorem zZ:∀{a b:M},enc a=enc b->a=b
 |.wt n,.wt k,h=>by
  have h:D.tup [.str "weight",.str n]=.tup [.str "weight",.str k]:=h;simp at h;rw[h]
 |.wt n,.bS l r a b,h=>by
  have h:D.tup [.str "weight",.str n]=.tup [.str "rod",.int l,.int r,enc a,enc b]:=h;simp at h
 |.bS l r a b,.wt n,h=>by
  have h:D.tup [.str "rod",.int l,.int r,enc a,enc b]=.tup [.str "weight",.str n]:=h;simp at h
 |.bS l r a b,.bS l' r' c d,h=>by
  have h:D.tup [.str "rod",.int l,.int r,enc a,enc b]=.tup [.str "rod",.int l',.int r',enc c,enc d]:=h;simp at h;obtain⟨h1,h2,e,f⟩:=h;rw[h1,h2,zZ e,zZ f]
theorem Ft:∀{ms a:List M},ms.map enc=a.map enc->ms=a
 |[],[],_=>rfl
 |[],_::_,h=>by cases h
 |_::_,[],h=>by cases h
 |m::ms,b::a,h=>by
  rw[cK,cK,List.cons.injEq] at h;rw[zZ h.1,Ft h.2]
theorem TabsAt.snoc{A:Ar}{q:Nat}{T:Tb}(a:TabAt A q T):∀{qs:List Nat} {Ts:List Tb},TabsAt A qs Ts->TabsAt A (qs++[q]) (Ts++[T])
 |[],[],_=>⟨a,trivial⟩
 |_::qs,_::Ts,h=>⟨h.1,TabsAt.snoc a h.2⟩
 |[],_::_,h=>h.elim
 |_::_,[],h=>h.elim
end DP
namespace My
open L2 DP MA
theorem O9(T:TopD K mg "name_shares" Bx mZ)(b:mg "dict"=none)(a:aj P w K mg base 10 "shares" oz (ak mg 1 rm)):aj P w K mg base 11 "name_shares" mZ (ak mg 1 Dz):=by
 refine bF T JX λj r k s nd=>⟨_,(ay (aN (ie (mD rfl) mH b nA (aa (eY (some 3) (own:=["way","name","share"]) (frees:=[]) (ix:=[]) rfl (cA (dL a j k (aa (vr 0) af))) (λc=>(oA rfl (gR (pG 0 (show(["way","name","share"]:List Str).Nodup by decide+kernel)) (gR (pG 1 (show(["way","name","share"]:List Str).Nodup by decide+kernel)) (gR (pG 2 (show(["way","name","share"]:List Str).Nodup by decide+kernel)) oB))))) (λc=>(bW (aa (vr 1) (aa (vr 2) af))))) af)))),λds A R h t=>?_⟩;obtain⟨m,rfl,g,q⟩:=h;have hd:=g.deep;have hz:(1000:Nat)<=sizeLine:=δ
 refine⟨rfl,m,rfl,g.wf,hd,λu v i h1 l1=>?_⟩;refine d7 h1 ?_;have ln:=m7 m "" 1;have nl:=iZ hd;refine iS (f:=λd=>match d with|.tup [_,n,x]=>.tup [n,x]|d=>d) h1 _ _ (λd hd=>?_) (by simp;omega) ?_
 .obtain⟨p,y,rfl⟩:=aM.mp hd
  exact⟨[.str p.1,.str p.2.1,fq p.2.2],rfl,λQ l=>⟨show 2<=sizeLine by decide,l⟩⟩
 have e:((bC m "" 1).map oE).map (λd=>match d with|.tup [_,n,x]=>D.tup [n,x]|d=>d)=(bC m "" 1).map wg:=by
  rw[bK];rfl
 rw[fC,e];refine u_ aE (AZ _) (by simp;omega) ?_;refine q _ _ ((i.trans Gr.push).trans Gr.push) ?_ (by have:=i.len;simp;omega);have o:b_ (aQ m)=m6 (((bC m "" 1).map λp=>(p.2.1,fq p.2.2)).map λp=>((Sum.inr p.1:Key),p.2)):=GI _ [];rw[o];exact aE
theorem Ow(T:TopD K mg "check_hall" Jd wM)(c:mg "isinstance"=none)(k:mg "tuple"=none)(l:mg "len"=none){t:Tok}(a:mg "MOST_MOBILES"=some (.int 6 t)){d:Addr}(f:mg "NoHall"=some (.ref d))(i:excIn K d jW "ValueError.__new__"=true)
  (j:aj P w K mg base 8 "is_mobile" sS (ak mg 1 ze))(n:aj P w K mg base 11 "bar" ou (ak mg 1 rj)):aj P w K mg base 12 "check_hall" wM (ak mg 1 C3):=by
 refine bF T WJ λq r s J nd=>⟨_,(av (bJ (PW.pt (gO (fF (e_ (kr kit_tuple c k j7 (vr 0)))) (iE (fF (BS ai (dI iQ ia l jg (aa (vr 0) af)) (lA a)))))) (ay (jr r rfl f i (aa bE af))) bM)
  (ay (eH dM rfl (cA (vr 0)) (dG 1 nd) (ay (bJ (PW.pt (gO (fF (e_ (dL j q s (aa (vr 1) af)))) (iE (qk (dL n q s (aa (vr 1) af)) jP)))) (ay (jr r rfl f i (aa bE af))) bM))))),λds A R h L=>?_⟩
 obtain⟨x,rfl,⟨ms,u⟩,C,N⟩:=h;obtain⟨rfl,h1,O,E⟩:=id u;have lm:(ms.map enc).length=ms.length:=aK ..;refine cD (λz=>?_) (λz=>absurd (show(1:Int)<=(((ms.map enc).length:Nat):Int) by omega) z);refine cN (λB=>absurd (show(((ms.map enc).length:Nat):Int)<=6 by omega) B) (λB=>?_);refine eG (λrest τ A'=>∃(dn b:List M) (y:Option D),rest=b.map enc/\dn++b=ms/\τ=[some (.tup (ms.map enc)),y]/\Gr A A') ?_ ?_ ?_ _ _ _ ⟨[],ms,none,rfl,rfl,rfl,Gr.refl⟩
 .intro _ _ _ _
  trivial
 .rintro v rest τ F ⟨dn,b,y,e,o,rfl,g⟩ Q G
  cases b with
  |nil=>cases e
  |cons m b=>
   cases e;have p:=E m (by rw[<-o];simp);refine⟨rfl,_,⟨m,rfl,p.wf,p.deep,rfl⟩,λS H=>⟨rfl,m,rfl,p.wf,p.deep,λU I=>?_⟩⟩;rw[p.bar];exact G _ _ ⟨dn++[m],b,_,rfl,by simpa using o,rfl,(g.trans H).trans I⟩
 .rintro τ F ⟨dn,b,y,e,o,rfl,g⟩
  exact C ⟨ms,u⟩ _ g
theorem OM(T:TopD K mg "hall_shares" Jr sR)(d:aj P w K mg base 12 "check_hall" wM (ak mg 1 C3))(b:aj P w K mg base 11 "name_shares" mZ (ak mg 1 Dz)):aj P w K mg base 13 "hall_shares" sR (ak mg 1 zd):=by
 refine bF T WW λo E s F nd=>⟨_,(av (c7 (dL d o s (aa (vr 0) af)))
  (ay (aN (eY none (own:=["mobile"]) (frees:=[]) (ix:=[]) rfl (cA (vr 0)) (λc=>(pG 0 (show(["mobile"]:List Str).Nodup by decide+kernel))) (λc=>(dL b o m5 (aa (vr 0) af))))))),λds A R h G=>?_⟩
 obtain⟨x,rfl,t,p,n⟩:=h;have hz:(1000:Nat)<=sizeLine:=δ
 refine⟨rfl,x,rfl,t,λ⟨ms,q⟩ r k=>?_,λu r k=>n u _ k⟩;have v:=p ms q;clear p;obtain⟨rfl,h1,H,z⟩:=q;refine pI (λrest ys A'=>∃(dn a:List M) (i:List Nat),rest=a.map enc/\dn++a=ms/\ys=i.map D.ref/\TabsAt A' i (dn.map aQ)/\Gr r A') ?_ ?_ ?_ ?_ _ _ _ ⟨[],ms,[],rfl,rfl,rfl,trivial,Gr.refl⟩
 .intro _ _ _ _
  trivial
 .rintro rest ys A' ⟨dn,a,i,_,e,rfl,j,_⟩
  have l1:=j.len;have l2:=cj List.length e;rw[cM] at l2;rw[aK] at l1 ⊢;omega
 .rintro y rest ys A' ⟨dn,a,i,e,f,rfl,j,g⟩
  cases a with
  |nil=>cases e
  |cons m a=>
   cases e;refine⟨[enc m],rfl,λQ B=>⟨rfl,m,rfl,z m (by rw[<-f];simp),λI n l h2 l2=>B _ _ ⟨dn++[m],a,i++[n],rfl,by simpa using f,θ,?_,g.trans l⟩⟩⟩;rw[dP];exact TabsAt.snoc (.inl h2) (j.gr l)
 .rintro ys A' ⟨dn,a,i,e,f,rfl,j,g⟩
  cases a with
  |cons _ _=>cases e
  |nil=>
   have f:dn=ms:=by simpa using f
   subst f;have l:=(k.trans g).trans (Gr.push (T:=[C.lst (i.map D.ref)]));exact v _ _ l ⟨i,aE,j.gr Gr.push⟩ (k.trans g).len
end My
namespace DP
open L2 MA
def lZ(Ts:List Tb)(a b:Str):Prop:=∃T∈Ts,a∈aH T/\b∈aH T
inductive iA(Ts:List Tb):Str->Str->Prop
 |refl (a:Str):iA Ts a a
 |step {a b c:Str}:iA Ts a b->lZ Ts b c->iA Ts a c
theorem lZ.symm{Ts:List Tb}{a b:Str}(h:lZ Ts a b):lZ Ts b a:=by
 obtain⟨T,h1,h2,c⟩:=h;exact⟨T,h1,c,h2⟩
theorem iA.trans{Ts:List Tb}{a b c:Str}(h:iA Ts a b)(k:iA Ts b c):iA Ts a c:=by
 induction k with
 |refl=>exact h
 |step _ e d=>exact .step d e
theorem iA.symm{Ts:List Tb}{a b:Str}(h:iA Ts a b):iA Ts b a:=by
 induction h with
 |refl=>exact .refl _
 |step _ e c=>exact(iA.step (.refl _) e.symm).trans c
theorem LP{Ts:List Tb}{a b:Str}:lZ Ts a b↔∃s∈d9 Ts a,s.2.2=b:=by
 constructor
 .rintro ⟨T,c,h1,h2⟩
  obtain⟨i,hi,e⟩:=jc c;exact⟨(i,a,b),n9.mpr ⟨T,by rw[a_ hi,e],h1,rfl,h2⟩,rfl⟩
 .rintro ⟨s,d,rfl⟩
  obtain⟨T,h1,h2,g,f⟩:=n9.mp d;exact⟨T,cS h1,h2,f⟩
inductive jH(Ts:List Tb):Str->List bz->Str->Prop
 |nil (a:Str):jH Ts a [] a
 |snoc {a b:Str} {l:List bz} {s:bz}:jH Ts a l s.2.1->dY Ts s->s.2.2=b->jH Ts a (l++[s]) b
theorem jH.xH{Ts:List Tb}{a b:Str}{l:List bz}(h:jH Ts a l b):iA Ts a b:=by
 induction h with
 |nil=>exact .refl _
 |snoc _ c e d=>
  obtain⟨T,h1,h2,f⟩:=c;exact .step d ⟨T,cS h1,h2,by rw[<-e];exact f⟩
theorem FL{Ts:List Tb}{a:Str}:∀(ss:List bz) (P:aS),(∀s∈ss,dY Ts s/\s.2.1∈aC P)->(∀p∈P,jH Ts a p.2 p.1)->∀p∈ss.foldl cz P,jH Ts a p.2 p.1
 |[],P,_,h=>h
 |s::ss,P,b,h=>by
  obtain⟨d,e⟩:=b s (aT ..);refine FL ss (cz P s) (λx c=>⟨(b x (bq _ c)).1,(rD P s _).mpr (.inl (b x (bq _ c)).2)⟩) λp hp=>?_;unfold cz at hp;split at hp
  .exact h p hp
  .rcases bX.mp hp with hp|hp
   .exact h p hp
   .rw[bI.mp hp]
    exact .snoc (h _ (kG e)) d rfl
theorem XW{Ts:List Tb}{n:Str}{s:bz}(h:s∈d9 Ts n):dY Ts s/\s.2.1=n:=by
 obtain⟨T,h1,h2,a,b⟩:=n9.mp h;exact⟨⟨T,h1,by rw[a];exact h2,b⟩,a⟩
theorem D3{Ts:List Tb}{a:Str}:∀(f i:Nat) (P:aS),(∀p∈P,jH Ts a p.2 p.1)->∀p∈dN Ts f i P,jH Ts a p.2 p.1
 |0,i,P,h=>h
 |f+1,i,P,h=>by
  cases e:P[i]? with
  |none=>
   have:dN Ts (f+1) i P=P:=by
    show(match P[i]? with|some p=>dN Ts f (i+1) ((d9 Ts p.1).foldl cz P)|none=>P)=_;rw[e]
   rw[this];exact h
  |some c=>
   rw[rG e];refine D3 f (i+1) _ (FL _ _ (λs b=>?_) h);obtain⟨h1,h2⟩:=XW b;exact⟨h1,by rw[h2];exact cX (cS e)⟩
theorem D4{Ts:List Tb}{NN:List Str}(hok:eV Ts NN):∀(f i:Nat) (P:aS),fV P NN->13<=f+i->(∀j,j<i->∀p,P[j]?=some p->∀b,lZ Ts p.1 b->b∈aC P)->∀p∈dN Ts f i P,∀b,lZ Ts p.1 b->b∈aC (dN Ts f i P)
 |0,i,P,l,r,hc=>λp a b c=>by
  have A:=cC l.len hok.nn;obtain⟨j,g,e⟩:=jc (show p∈P from a);exact hc j ω p (by rw[a_ g,e]) b c
 |f+1,i,P,l,r,hc=>by
  cases e:P[i]? with
  |none=>
   have t:dN Ts (f+1) i P=P:=by
    show(match P[i]? with|some p=>dN Ts f (i+1) ((d9 Ts p.1).foldl cz P)|none=>P)=_;rw[e]
   rw[t];intro p a b c;obtain⟨j,g,m⟩:=jc a;have:P.length<=i:=List.getElem?_eq_none_iff.mp e;exact hc j ω p (by rw[a_ g,m]) b c
  |some d=>
   rw[rG e];obtain⟨X,eX⟩:=vC (d9 Ts d.1) P;have n:d.1∈aC P:=cX (cS e);have o:=(bY.mp e).1;have key:∀(ss:List bz) (Q:aS),(∀s∈ss,s∈d9 Ts d.1)->fV Q NN->d.1∈aC Q->fV (ss.foldl cz Q) NN:=by
    intro ss;induction ss with
    |nil=>intro Q _ h _;exact h
    |cons s ss u=>
     intro Q k v a;obtain⟨T,w,_,m,y⟩:=n9.mp (k s (aT ..));exact u _ (λx z=>k x (bq _ z)) (v.add (by rw[m];exact a) (hok.sub T (cS w) _ y)) ((rD Q s d.1).mpr (.inl a))
   refine D4 hok f (i+1) _ (key _ _ (λs h=>h) l n) ω λj g p a b c=>?_;rw[z7];by_cases q:j<i
   .rw[eX,iu ω] at a
    exact .inl (hc j q p a b c)
   .have:j=i:=ω
    subst this;rw[eX,iu o,e] at a;cases a;obtain⟨s,k,rfl⟩:=LP.mp c;exact .inr (cX k)
theorem Ba{Ts:List Tb}{n:Str}:∀p∈aO Ts n,jH Ts n p.2 p.1:=D3 14 0 _ λp a=>by
 have:p=(n,[]):=by simpa using a
 rw[this];exact .nil _
theorem qd{Ts:List Tb}{NN:List Str}(hok:eV Ts NN){n:Str}(c:n∈NN){m:Str}:m∈aC (aO Ts n)↔iA Ts n m:=by
 constructor
 .intro h
  obtain⟨p,a,rfl⟩:=aM.mp h;exact(Ba p a).xH
 .intro h
  have h0:fV [(n,[])] NN:=⟨by simp[aC],λm d=>by
   have:m=n:=by simpa[aC] using d
   rw[this];exact c,λp a=>by
   have:p=(n,[]):=by simpa using a
   rw[this];simp⟩
  have b:=D4 hok 14 0 [(n,[])] h0 ω λj g=>by omega
  induction h with
  |refl=>exact(gQ hok c).2.1
  |step _ e f=>
   obtain⟨p,a,rfl⟩:=aM.mp f;exact b p a _ e
theorem F6{Ts:List Tb}{NN:List Str}(hok:eV Ts NN):∀(ns:List Str) (Gs:List aS),(∀n∈ns,n∈NN)->(∀P∈Gs,∃n∈NN,P=aO Ts n)->Gs.Pairwise (λP Q=>∀m,m∈aC P->m∉aC Q)->(ns.foldl (cU Ts) Gs).Pairwise (λP Q=>∀m,m∈aC P->m∉aC Q)
 |[],Gs,_,_,h=>h
 |n::ns,Gs,f,e,h=>by
  have b:=f n (aT ..);refine F6 hok ns (cU Ts Gs n) (λm d=>f m (bq _ d)) (λP hP=>?_) ?_
  .unfold cU at hP
   split at hP
   .exact e P hP
   .rcases bX.mp hP with hP|hP
    .exact e P hP
    .exact⟨n,b,bI.mp hP⟩
  .unfold cU
   split
   .exact h
   .rename_i c
    rw[List.pairwise_append];refine⟨h,θ,λP hP Q g m d a=>?_⟩;rw[bI.mp g] at a;obtain⟨k,i,rfl⟩:=e P hP;refine c (gz.mpr ⟨_,hP,?_⟩);rw[qd hok i] at d ⊢;rw[qd hok b] at a;exact d.trans a.symm
theorem rZ{Ts:List Tb}{NN:List Str}(hok:eV Ts NN):(bG Ts).Pairwise (λP Q=>∀m,m∈aC P->m∉aC Q):=
 F6 hok _ [] (λm a=>by
  obtain⟨T,h1,h2⟩:=gz.mp a;exact hok.sub T h1 m h2) (λP h=>by cases h) Pairwise.nil
theorem AH{n:Str}:∀(Gs:List aS) (acc:List bz) (P:aS),Gs.Pairwise (λP Q=>∀m,m∈aC P->m∉aC Q)->P∈Gs->n∈aC P->Gs.foldl (λacc P=>if n∈aC P then cJ P n else acc) acc=cJ P n
 |[],acc,P,_,h,_=>by cases h
 |Q::Gs,acc,P,hd,hP,a=>by
  obtain⟨h1,h2⟩:=gU.mp hd;rw[gX];rcases aY.mp hP with rfl|hP
  .rw[aA a]
   have:∀(Gs:List aS) (acc:List bz),(∀Q∈Gs,n∉aC Q)->Gs.foldl (λacc P=>if n∈aC P then cJ P n else acc) acc=acc:=by
    intro Gs;induction Gs with
    |nil=>intro acc _;rfl
    |cons Q Gs c=>
     intro acc h;rw[gX,ao (h Q (aT ..))];exact c acc λd b=>h d (bq _ b)
   exact this Gs _ λQ e=>h1 Q e n a
  .exact AH Gs _ P h2 hP a
structure Cs(Ts:List Tb)(w:Str->Rat):Prop where
 pos:∀n,0<w n
 eq:∀T∈Ts,∀a∈aH T,∀b∈aH T,w a*dz T b=w b*dz T a
theorem kM{x:Rat}(h:0<x):x≠0:=λe=>by rw[e] at h;exact absurd h δ
theorem Ke{Ts:List Tb}{w:Str->Rat}(b:∀T∈Ts,jM T)(h:Cs Ts w){s:bz}(c:dY Ts s):cG Ts s*w s.2.1=w s.2.2:=by
 obtain⟨T,h1,h2,d⟩:=c;have a:=cS h1;have e:=h.eq T a _ h2 _ d;have p1:=kM (m8 (b T a) h2).pos;unfold cG;rw[lN h1,lN h1];grind
theorem Ew(Ts:List Tb)(a:List bz):∀b:List bz,dZ Ts (a++b)=dZ Ts a*dZ Ts b:=by
 have key:∀(b:List bz) (x:Rat),b.foldl (λx s=>x*cG Ts s) x=x*b.foldl (λx s=>x*cG Ts s) 1:=by
  intro b;induction b with
  |nil=>intro x;simp[Rat.mul_one]
  |cons s b c=>
   intro x;rw[gX,gX,c (x*cG Ts s),c (1*cG Ts s),oX,yF]
 intro b;unfold dZ;rw[nD,key]
theorem Er{Ts:List Tb}{w:Str->Rat}(c:∀T∈Ts,jM T)(h:Cs Ts w){a b:Str}{l:List bz}(hc:jH Ts a l b):dZ Ts l*w a=w b:=by
 induction hc with
 |nil=>exact oX _
 |snoc hc d e f=>
  rw[uY,<-e,<-Ke c h d,<-f];grind
theorem Ex{Ts:List Tb}(a:∀T∈Ts,jM T):∀(l:List bz),(∀s∈l,dY Ts s)->dZ Ts (bwd l)*dZ Ts l=1
 |[],_=>by show(1:Rat)*1=1;exact oX _
 |s::l,b=>by
  have h:=Ex a l λx d=>b x (bq _ d);have e:bwd (s::l)=bwd l++[(s.1,s.2.2,s.2.1)]:=by
   unfold bwd;simp
  have f:dZ Ts (s::l)=cG Ts s*dZ Ts l:=by
   rw[show s::l=[s]++l from rfl,Ew];congr 1;show(1:Rat)*cG Ts s=cG Ts s;exact oX _
  obtain⟨T,h1,h2,g⟩:=b s (aT ..);have c:=a T (cS h1);have p2:=kM (m8 c h2).pos;have i:=kM (m8 c g).pos;have j:cG Ts (s.1,s.2.2,s.2.1)*cG Ts s=1:=by
   unfold cG;simp only[lN h1];grind
  rw[e,uY,f];grind
theorem V3{Ts:List Tb}{NN:List Str}(hok:eV Ts NN){w:Str->Rat}(h:Cs Ts w):i9 Ts=none:=by
 unfold i9;rw[o4];intro ss g;obtain⟨s,m,rfl⟩:=aM.mp g;obtain⟨T,h1,h2,l⟩:=zG m;have i:=cS h1;have c:=(AQ (hok.tok T i).ne).1;have f:dY Ts s:=⟨T,h1,by rw[h2];exact c,l⟩;have n1:s.2.1∈fu (bG Ts):=vF hok i (by rw[h2];exact c);obtain⟨P,j,b⟩:=gz.mp n1;obtain⟨k,n,_,rfl⟩:=iV hok j;have a:s.2.2∈aC (aO Ts k):=by
  rw[qd hok n] at b ⊢;exact .step b ⟨T,i,by rw[h2];exact c,l⟩
 have d:=rZ hok;have l1:iH (bG Ts) s.2.1=cJ (aO Ts k) s.2.1:=AH _ _ _ d j b;have l2:iH (bG Ts) s.2.2=cJ (aO Ts k) s.2.2:=AH _ _ _ d j a;have o:=Er hok.tok h (Ba _ (kG b));have p:=Er hok.tok h (Ba _ (kG a));have q:=Ex hok.tok (cJ (aO Ts k) s.2.2) (xD _ (kG a));have r:=Ke hok.tok h f;simp only at o p;have e:dZ Ts (i_ Ts s)=1:=by
  unfold i_;rw[l1,l2,Ew,uY];have t:=kM (h.pos k);have u:=kM (h.pos s.2.2);have v:=kM (h.pos s.2.1);grind
 simp[e]
theorem Xy{A:Ar}{r:Nat}{lo hi:Option Int}{xs:List D}{R:DK}(h:A[r]?=some (.lst xs))(k:R (.ref A.length) (A++[.lst (cutD xs lo hi)])):oF r lo hi A R:=by
 unfold oF;simp only[h];exact k
theorem ME{xs:List D}{i:Nat}(h:i<=xs.length):cutD xs none (some ((i:Nat):Int))=xs.take i:=by
 unfold cutD;have a:HT.bh xs.length 0 none=0:=rfl;have b:HT.bh xs.length xs.length (some ((i:Nat):Int))=i:=by
  unfold HT.bh;simp;rw[ao ω];omega
 rw[a,b];rfl
structure kZ(Ts:List Tb)(es:List (List Str)):Prop where
 qh:∀e∈es,e.Pairwise strLt/\e≠[]
 ord:es.Pairwise λa b=>strLt (a.headD default) (b.headD default)
 F5:∀e∈es,∃P∈bG Ts,∀x,x∈e↔x∈aC P
 all:∀P∈bG Ts,∃e∈es,∀x,x∈e↔x∈aC P
def C0:Ct:=λds A R E=>∃x NN,ds=[x]/\(∃ms,iz x ms)/\(∀n∈NN,Nm n)/\(∀ms,iz x ms->eV (ms.map aQ) NN/\∀A' q es,kZ (ms.map aQ) es->Gr A A'->A'[q]?=some (.lst (es.map λe=>D.tup (e.map D.str)))->A.length<=q->R (.ref q) A')/\((¬∃ms,iz x ms)->∀A',Gr A A'->E "NoHall" A')
noncomputable def mQ(d:D):gj.α:=match d with
 |.tup (.str n::_)=>n.cps.toList
 |_=>[]
theorem F9:∀{Gs:List aS} {NN:List Str},(∀P∈Gs,∃n∈aC P,n∈NN)->Gs.Pairwise (λP Q=>∀m,m∈aC P->m∉aC Q)->Gs.length<=NN.length:=by
 intro Gs NN h hd;have:∃a:List Str,a.length=Gs.length/\a.Nodup/\(∀x∈a,x∈NN)/\∀x∈a,∃P∈Gs,x∈aC P:=by
  induction Gs with
  |nil=>exact⟨[],rfl,oO,(λ_ h=>by cases h),(λ_ h=>by cases h)⟩
  |cons P Gs e=>
   obtain⟨f,g⟩:=gU.mp hd;obtain⟨a,k1,k2,k3,d⟩:=e (λQ b=>h Q (bq _ b)) g;obtain⟨n,n1,n2⟩:=h P (aT ..);refine⟨n::a,by simp[k1],iK.mpr ⟨λi=>?_,k2⟩,λx hx=>?_,λx hx=>?_⟩
   .obtain⟨Q,b,c⟩:=d n i
    exact f Q b n n1 c
   .rcases aY.mp hx with rfl|hx
    .exact n2
    .exact k3 x hx
   .rcases aY.mp hx with rfl|hx
    .exact⟨P,aT ..,n1⟩
    .obtain⟨Q,b,c⟩:=d x hx
     exact⟨Q,bq _ b,c⟩
 obtain⟨a,k1,k2,k3,_⟩:=this;have:=jS a NN k2 k3;omega
noncomputable def eS(e:List Str):D:=.tup (e.map D.str)
theorem BW{a b:List Str}(h:eS a=eS b):a=b:=by
 have h:=D.tup.inj h;exact(List.map_inj_right λx y e=>D.str.inj e).mp h
theorem YJ{e:List Str}(h:∀n∈e,Nm n)(ne:e≠[]):gf (eS e)=true/\(toQ (eS e)).canLay0=true/\(toQ (eS e)).depth<=60/\∃x r,toQ (eS e)=.tuple (.str x::r):=by
 have eq:toQ (eS e)=.tuple (e.map PyData.str):=by
  show PyData.tuple (bR (e.map D.str))=_;rw[s8]
 refine⟨xF e,?_,?_,?_⟩
 .rw[eq]
  simpa[canLay0] using vP e h
 .rw[eq]
  simp[PyData.depth,zS]
 .cases e with
  |nil=>exact absurd rfl ne
  |cons x r=>exact⟨x,r.map PyData.str,eq⟩
theorem G5:∀xs:List Str,gy (xs.map PyData.str) (xs.map PyData.str)=some false
 |[]=>rfl
 |x::xs=>by
  rw[cK,gy];have c:PyData.eqv (.str x) (.str x)=true:=by simp[PyData.eqv]
  rw[c];exact G5 xs
theorem YI{a b:List Str}(d:a≠[])(f:b≠[])(h:a.headD default=b.headD default->a=b):ltQ (toQ (eS a)) (toQ (eS b))=some (gj.blt (mQ (eS a)) (mQ (eS b))):=by
 cases a with
 |nil=>exact absurd rfl d
 |cons x a=>
 cases b with
 |nil=>exact absurd rfl f
 |cons y b=>
 have eq:∀(x:Str) (e:List Str),toQ (eS (x::e))=.tuple (.str x::e.map PyData.str):=λx e=>by
  show PyData.tuple (bR ((x::e).map D.str))=_;rw[s8];rfl
 rw[eq,eq];show _=some (gj.blt x.cps.toList y.cps.toList);by_cases c:x=y
 .have e:=h c
  cases e;rw[ltQ,gj.irrefl];exact G5 (x::a)
 .rw[ltQ,gy]
  have c':PyData.eqv (.str x) (.str y)=false:=by simpa[PyData.eqv] using c
  rw[c'];show ltQ (.str x) (.str y)=_;rw[ltQ]
theorem DT{f:List Str->D}:∀{ds:List D},(∀d∈ds,∃e,d=f e)->∃es:List (List Str),ds=es.map f
 |[],_=>⟨[],rfl⟩
 |d::ds,h=>by
  obtain⟨es,rfl⟩:=DT (ds:=ds) λx a=>h x (bq _ a);obtain⟨e,rfl⟩:=h d (aT ..);exact⟨e::es,rfl⟩
end DP
namespace My
open L2 DP MA
theorem Oo(T:TopD K mg "bound" Jb wL)(q:mg "sorted"=none)(H:mg "tuple"=none)(p:aj P w K mg base 13 "hall_shares" sR (ak mg 1 zd))(F:aj P w K mg base 3 "groups" p_ (ak mg 1 uJ)):aj P w K mg base 14 "bound" wL (ak mg 1 C0):=by
 refine bF T WH λhr hR hx hu nd=>⟨_,(ay (aN (dI (Em rfl hu) ER q uw (aa (eY none (own:=["paths"]) (frees:=[]) (ix:=[]) rfl (cA (dL F hr hx (aa (dL p hr hx (aa (vr 0) af)) af))) (λc=>(pG 0 (show(["paths"]:List Str).Nodup by decide+kernel))) (λc=>(ie rJ rQ H j7 (aa (dI (zF rfl) zM q uw (aa (vr 0) af)) af)))) af)))),λds A R h hl=>?_⟩;obtain⟨x,NN,rfl,hk,Am,q1,q2⟩:=h;have hz:(1000:Nat)<=sizeLine:=δ
 refine⟨rfl,x,rfl,hk,λms hH A1 q3 g1 hB l1=>?_,λJ A1 g1=>q2 J _ g1⟩;obtain⟨hok,q4⟩:=q1 ms hH;refine⟨rfl,q3,_,NN,rfl,hB,hok,λA2 q5 g2 hG=>?_⟩;obtain⟨_,gs,X,Y⟩:=hG;have p5:=Y.len;refine d7 X ?_;have gl:(bG (ms.map aQ)).length<64:=by
  have:=F9 (Gs:=bG (ms.map aQ)) (NN:=NN) (λP u=>?_) (rZ hok)
  .have:=hok.nn
   omega
  .obtain⟨n,J,_,rfl⟩:=iV hok u
   exact⟨n,(gQ hok J).2.1,J⟩
 have L:∀P∈bG (ms.map aQ),fV P NN/\aC P≠[]:=λP u=>by
  obtain⟨n,J,_,rfl⟩:=iV hok u;obtain⟨k1,k2,_⟩:=gQ hok J;exact⟨k1,λz=>by rw[z] at k2;cases k2⟩
 refine pI (λrest ys A'=>∃(dn m:List Nat) (es:List (List Str)),rest=m.map D.ref/\dn++m=gs/\ys=es.map (λe=>D.tup (e.map D.str))/\es.length=dn.length/\(∀(i:Nat) (e:List Str) (P:aS),es[i]?=some e->(bG (ms.map aQ))[i]?=some P->e.Pairwise strLt/\∀x,x∈e↔x∈aC P)/\Gr A2 A') ?_ ?_ ?_ ?_ _ _ _ ⟨[],gs,[],rfl,rfl,rfl,rfl,(λi e P h=>by simp at h),Gr.refl⟩
 .rintro rest ys A' ⟨_,_,_,_,_,_,_,_,g⟩
  exact g.get X
 .rintro rest ys A' ⟨dn,m,es,_,v,rfl,M,_,g⟩
  have:=cj List.length v;rw[cM] at this;rw[aK];omega
 .rintro y rest ys A' ⟨dn,m,es,e,v,rfl,M,V,g⟩
  cases m with
  |nil=>cases e
  |cons t m=>
   cases e;have ht:gs[dn.length]?=some t:=by rw[<-v];simp
   obtain⟨P,u,hA⟩:=Y.get ht;have hA:=hA.gr g;obtain⟨_,kvs,hd,hk',_⟩:=hA;have Z:=(L P (cS u)).1;refine⟨[.ref t],rfl,λQ hQ=>?_⟩;refine By hd hk' Z.nd (by have:=Z.len;have:=hok.nn;simp[aC];omega) λzs z1 z2=>?_;refine tQ aE ?_;refine hQ _ _ ⟨dn++[t],m,es++[zs],rfl,by simpa using v,θ,by simp[M],λi e P' h1 h2=>?_,g.trans Gr.push⟩;by_cases hi:i<es.length
   .rw[iu hi] at h1
    exact V i e P' h1 h2
   .rw[qQ ω] at h1
    have hi0:i - es.length=0:=by
     cases hh:i - es.length with
     |zero=>rfl
     |succ k=>rw[hh] at h1;simp at h1
    rw[hi0] at h1;simp at h1;have QB:i=dn.length:=ω
    rw[QB,u] at h2;cases h2;rw[<-h1];exact⟨z1,z2⟩
 .rintro ys A' ⟨dn,m,es,e,v,rfl,M,V,g⟩
  cases m with
  |cons _ _=>cases e
  |nil=>
   have v:dn=gs:=by simpa using v
   subst v;have ZV:es.length=(bG (ms.map aQ)).length:=ω
   have at_:∀e∈es,∃(i:Nat) (P:aS),es[i]?=some e/\(bG (ms.map aQ))[i]?=some P/\e.Pairwise strLt/\(∀x,x∈e↔x∈aC P)/\P∈bG (ms.map aQ):=λe o=>by
    obtain⟨i,hi,rfl⟩:=jc o;have u:=a_ (l:=bG (ms.map aQ)) (i:=i) ω;have o:=a_ (l:=es) (i:=i) hi;obtain⟨k1,k2⟩:=V i _ _ o u;exact⟨i,_,o,u,k1,k2,cS u⟩
   have ne:∀e∈es,e≠[]:=λe o z=>by
    obtain⟨i,P,_,_,_,k,u⟩:=at_ e o;have:=(L P u).2;cases hk:aC P with
    |nil=>exact this hk
    |cons n t=>
     have:=(k n).mpr (by rw[hk];simp);rw[z] at this;cases this
   have E:=rZ hok;have same:∀e∈es,∀G∈es,∀x,x∈e->x∈G->e=G:=λe o G B x h1 h2=>by
    obtain⟨i,P,k1,k2,k3,k4,_⟩:=at_ e o;obtain⟨j,P',j1,j2,j3,j4,_⟩:=at_ G B;have N:i=j:=by
     rw[uc] at E;obtain⟨hi,ei⟩:=bY.mp k2;obtain⟨hj,ej⟩:=bY.mp j2;rcases Nat.lt_trichotomy i j with h|h|h
     .exact absurd ((j4 x).mp h2) (by have:=E i j hi hj h x (by rw[ei];exact(k4 x).mp h1);rw[ej] at this;exact this)
     .exact h
     .exact absurd ((k4 x).mp h1) (by have:=E j i hj hi h x (by rw[ej];exact(j4 x).mp h2);rw[ei] at this;exact this)
    subst N;rw[k1] at j1;exact Option.some.inj j1
   have s:∀e:List Str,e≠[]->e.headD default∈e:=λe o=>by
    cases e with
    |nil=>exact absurd rfl o
    |cons x r=>exact aT ..
   have hh:∀e∈es,∀G∈es,e.headD default=G.headD default->e=G:=λe o G B h=>
    same e o G B _ (s e (ne e o)) (by rw[h];exact s G (ne G B))
   have nm:∀e∈es,∀n∈e,Nm n:=λe o n J=>by
    obtain⟨i,P,_,_,_,k,u⟩:=at_ e o;exact Am n ((L P u).1.sub n ((k n).mp J))
   refine Kg (ds:=es.map eS) gj mQ aE (by rw[aK];omega) (λd hd=>?_) (λd hd e o=>?_) λfs pf sf=>?_
   .obtain⟨e,o,rfl⟩:=aM.mp hd
    exact YJ (nm e o) (ne e o)
   .obtain⟨a,O,rfl⟩:=aM.mp hd
    obtain⟨b,I,rfl⟩:=aM.mp o;exact YI (ne a O) (ne b I) (hh a O b I)
   obtain⟨zs,rfl⟩:=DT (f:=eS) (ds:=fs) λd hd=>by
    obtain⟨e,_,rfl⟩:=aM.mp (pf.mem_iff.mp hd);exact⟨e,rfl⟩
   have W:∀e,e∈zs↔e∈es:=λe=>by
    have h1:e∈zs↔eS e∈zs.map eS:=by
     constructor
     .exact λh=>cX h
     .intro h
      obtain⟨G,B,h⟩:=aM.mp h;rw[<-BW h];exact B
    have h2:e∈es↔eS e∈es.map eS:=by
     constructor
     .exact λh=>cX h
     .intro h
      obtain⟨G,B,h⟩:=aM.mp h;rw[<-BW h];exact B
    rw[h1,h2,pf.mem_iff]
   have Oc:es.Nodup:=by
    rw[Nodup,uc];intro i j hi hj N z;have Qn:=a_ (l:=bG (ms.map aQ)) (i:=i) ω;have Qo:=a_ (l:=bG (ms.map aQ)) (i:=j) ω;obtain⟨_,k1⟩:=V i _ _ (a_ hi) Qn;obtain⟨_,k2⟩:=V j _ _ (a_ hj) Qo;have hm:=s es[i] (ne _ (kY hi));have m1:=(k1 _).mp hm;rw[z] at hm;have m2:=(k2 _).mp hm;rw[<-z] at m2;exact(uc.mp E) i j ω ω N _ m1 m2
   have Zk:zs.Nodup:=by
    have h1:(es.map eS).Nodup:=jA.mpr (Oc.imp λ {a b} U z=>U (BW z));have h2:(zs.map eS).Nodup:=pf.nodup_iff.mpr h1;exact Pairwise.imp (R:=λa b=>eS a≠eS b) (S:=λa b:List Str=>a≠b) (λ {a b} U (z:a=b)=>U (by rw[z])) (jA.mp h2)
   have I:kZ (ms.map aQ) zs:=by
    refine⟨λe o=>?_,?_,λe o=>?_,λP u=>?_⟩
    .obtain⟨_,_,_,_,k,_,_⟩:=at_ e ((W e).mp o)
     exact⟨k,ne e ((W e).mp o)⟩
    .refine(Pairwise.and_mem.mp ((jA.mp sf).and Zk)).imp ?_
     rintro a b ⟨O,I,k1,k2⟩;have O:=(W a).mp O;have I:=(W b).mp I;have na:=ne a O;have nb:=ne b I;have h1:=hh a O b I;cases a with
     |nil=>exact absurd rfl na
     |cons x a=>
     cases b with
     |nil=>exact absurd rfl nb
     |cons y b=>
     show strLt x y;have k1:gj.blt y.cps.toList x.cps.toList=false:=k1;have k3:gj.blt x.cps.toList y.cps.toList=true:=by
      cases c:gj.blt x.cps.toList y.cps.toList with
      |true=>rfl
      |false=>exact absurd (h1 (Ko (gj.total _ _ c k1))) k2
     exact show x.cps.toList<y.cps.toList from gD k3
    .obtain⟨_,P,_,_,_,k,u⟩:=at_ e ((W e).mp o)
     exact⟨P,u,k⟩
    .obtain⟨i,hi,rfl⟩:=jc u
     have o:=a_ (l:=es) (i:=i) ω;obtain⟨_,k⟩:=V i _ _ o (a_ hi);exact⟨_,(W _).mpr (cS o),k⟩
   have gg:=((g1.trans g2).trans g).trans (Gr.push (T:=[C.lst (es.map eS)]));exact q4 _ _ zs I (gg.trans Gr.push) aE gg.len
end My
namespace DP
open L2 MA
theorem Kz{A B:Ar}{q:Nat}{c d:C}(h:A[q]?=some d)(g:Gr (A.set q c) B):Gr A (B.set q d):=by
 obtain⟨T,rfl⟩:=g;refine⟨T,?_⟩;have a:=cy h;rw[yj _ _ (by simpa using a),set_set];congr 1;refine qN λi=>?_;by_cases hi:i=q
 .rw[hi,eF a,h]
 .rw[eE (Ne.symm hi)]
noncomputable def dD(Ts:List Tb)(P:aS)(n:Str):Rat:=dZ Ts (cJ P n)
def C_:Ct:=λds A R _=>∃r q Ts NN n A0,ds=[.ref r,.ref q]/\iw A0 r Ts/\Gr A0 A/\eV Ts NN/\n∈NN/\gJ A0.length A q (aO Ts n)/\∀A' p kvs,Gr A A'->A'[p]?=some (.dct kvs)->A.length<=p->Fb kvs (aC (aO Ts n)) (dD Ts (aO Ts n))->R (.ref p) A'
end DP
namespace My
open L2 DP MA
theorem OJ(T:TopD K mg "group_weights" Jp wW)(f:mg "dict"=none)(b:aj P w K mg base 4 "comes_to" sP (ak mg 2 za)):aj P w K mg base 5 "group_weights" wW (ak mg 2 C_):=by
 refine bF T WV λO hR hx S nd=>⟨_,(ay (aN (ie (mD rfl) mH f nA (aa (vd (eY none (own:=["name"]) (frees:=["by_place","paths"]) (ix:=[0,1]) rfl (nN (vr 1)) (λc=>(pG 0 (show(["name","by_place","paths"]:List Str).Nodup by decide+kernel))) (λc=>(bW (aa (vr 0) (aa (dL b O m5 (aa (vr 1) (aa (dX S (vr 2) (vr 0)) af))) af)))))) af)))),λds A R h hl=>?_⟩;obtain⟨r,q,Ts,NN,n,U,rfl,V,W,hok,X,Y,k⟩:=h;obtain⟨Z,kvs,hd,hk,hv⟩:=Y;have hz:(1000:Nat)<=sizeLine:=δ
 obtain⟨i,_,_⟩:=gQ hok X;have pl:=i.len;have SY:=hok.nn;have t:(aC (aO Ts n)).length=(aO Ts n).length:=by simp[aC]
 have y:=cy hd;refine .inl ⟨q,kvs,hd,λo=>?_⟩;generalize e:A.set q (.bw o kvs)=u;have j:u[q]?=some (.bw o kvs):=by rw[<-e];exact eF y
 have B:Gr U u:=by rw[<-e];exact W.set Z
 have E:=V.gr B;refine pZ j ?_;have ek:(kvs.map λp=>keyOf p.1)=(aC (aO Ts n)).map D.str:=by
  have:(kvs.map λp=>keyOf p.1)=(kvs.map (·.1)).map keyOf:=by rw[bK];rfl
  rw[this,hk,bK];rfl
 rw[ek];refine pJ (λd=>match d with|.str m=>ff (dD Ts (aO Ts n)) m|d=>d) _ [] u (λA' g=>g.get j) (λd F l s=>?_) (by simp[t];omega) (λl s=>?_)
 .obtain⟨m,x,rfl⟩:=aM.mp F
  obtain⟨a,la,ga,G⟩:=hv m x;have aq:a≠q:=λz=>by rw[z,hd] at G;cases G
  have H:u[a]?=some (.lst ((cJ (aO Ts n) m).map cB)):=by
   rw[<-e,eE (Ne.symm aq)];exact G
  refine⟨[.str m],rfl,λQ hQ=>?_⟩;refine su (s.get j) rfl ga ?_;have pm:=kG x;have I:=i.pl _ pm;refine⟨rfl,r,a,Ts,_,rfl,E.gr s,hok.tok,s.get H,λst J=>xD _ pm st J,by simp at I;omega,λA3 g3=>⟨show 2<=sizeLine by omega,hQ _ g3⟩⟩
 have em:((aC (aO Ts n)).map D.str).map (λd=>match d with|.str m=>ff (dD Ts (aO Ts n)) m|d=>d)=(aC (aO Ts n)).map (ff (dD Ts (aO Ts n))):=by
  rw[bK];rfl
 rw[fC,em];have v:Gr u (l++[C.lst ((aC (aO Ts n)).map (ff (dD Ts (aO Ts n))))]):=s.trans Gr.push;have l2:A.length<=l.length:=by
  have:=s.len;rw[<-e,length_set] at this;exact this
 refine⟨kvs,v.get j,?_⟩;have M:Gr A ((l++[C.lst ((aC (aO Ts n)).map (ff (dD Ts (aO Ts n))))]).set q (.dct kvs)):=Kz hd (by rw[e];exact v);have hL:((l++[C.lst ((aC (aO Ts n)).map (ff (dD Ts (aO Ts n))))]).set q (.dct kvs))[l.length]?=some (.lst ((aC (aO Ts n)).map (ff (dD Ts (aO Ts n))))):=by
  rw[eE ω];exact aE
 generalize ((l++[C.lst ((aC (aO Ts n)).map (ff (dD Ts (aO Ts n))))]).set q (.dct kvs):Ar)=A3 at*
 refine u_ hL (A_ _ _) (by simp[t];omega) ?_;have N:(((aC (aO Ts n)).map λm=>((Sum.inr m:Key),fq (dD Ts (aO Ts n) m))).map (·.1))=(aC (aO Ts n)).map Sum.inr:=by
  rw[bK];rfl
 have L:=Hj i.nd;have ep:m6 ((aC (aO Ts n)).map λm=>((Sum.inr m:Key),fq (dD Ts (aO Ts n) m)))=(aC (aO Ts n)).map λm=>((Sum.inr m:Key),fq (dD Ts (aO Ts n) m)):=by
  have:=Bh ((aC (aO Ts n)).map λm=>((Sum.inr m:Key),fq (dD Ts (aO Ts n) m))) [] (by rw[fC,N];exact L);simpa[m6] using this
 rw[ep];exact k _ _ _ (M.trans Gr.push) aE M.len ⟨N,i.nd,λm x=>Af (λm=>fq (dD Ts (aO Ts n) m)) _ m x⟩
end My
namespace DP
open L2 MA
theorem rw_okU{p:Str×Int}(h:Nm p.1):gf (bH p)=true/\(toQ (bH p)).canLay0=true/\(toQ (bH p)).depth<=60/\∃x r,toQ (bH p)=.tuple (.str x::r):=by
 have h1:=h.ok;refine⟨rfl,?_,?_,_,_,rfl⟩
 .simp[bH,toQ,bR,canLay0,canLayAll0] at h1 ⊢
  exact h1
 .simp[bH,toQ,bR,PyData.depth,depthAll]
def C7:Ct:=λds A R _=>∃r Ts rs,ds=[.ref r,fc rs]/\iw A r Ts/\Ts.length<=7/\jm rs/\(∀p∈rs,∃T∈Ts,p.1∈aH T)/\∀A',Gr A A'->R .aG A'
noncomputable def f9(s:Str->Rat)(p:Str×Int):Rat:=(p.2:Rat)/s p.1
def DF:Ct:=λds A R E=>∃(q:Nat) (kvs:List (Key×D)) (ns:List Str) (s:Str->Rat) (t:Nat) (rows:List (Str×Int)),ds=[.ref q,.ref t]/\A[q]? =some (.dct kvs)/\Fb kvs ns s/\ns.length<=32/\(∀n∈ns,mq (s n))/\A[t]? =some (.lst (rows.map bH))/\(∀p∈rows,p.1∈ns/\Nm p.1/\1<=p.2/\p.2<=999999)/\
 (rows=[]->∀A' p,Gr A A'->A'[p]? =some (.lst [])->A.length<=p->R (.ref p) A')/\
 ∀p0 more,rows=p0::more->((∀p∈rows,f9 s p0*s p.1=(p.2:Rat))->∀A' p,Gr A A'->A'[p]? =some (.lst (ns.map (ff λn=>f9 s p0*s n)))->A.length<=p->R (.ref p) A')/\((¬∀p∈rows,f9 s p0*s p.1=(p.2:Rat))->∀A',Gr A A'->E "Never" A')
theorem IB:∀{a:List (Str×Int)},(∀p∈a,Nm p.1)->f6 (a.map bH)=true/\canLayAll0 (bR (a.map bH))=true
 |[],_=>⟨rfl,rfl⟩
 |p::a,h=>by
  obtain⟨a1,a2,_,_⟩:=rw_okU (h p (aT ..));obtain⟨b,c⟩:=IB λx d=>h x (bq _ d);refine⟨by show(gf (bH p)&&f6 (a.map bH))=true;rw[a1,b];rfl,?_⟩;simp[bR,canLayAll0,a2,c]
theorem PK(i:Int):fq ((i:Int):Rat)=.tup [.int i,.int 1]:=by
 have h:rf ((i:Int):Rat)=(i,1):=by
  unfold rf;simp
 unfold fq;rw[h]
end DP
namespace My
open L2 DP MA
theorem OC(T:TopD K mg "check_told" Jh wQ)(l:mg "any"=none){b:Addr}(f:mg "NoWeights"=some (.ref b))(g:excIn K b jW "ValueError.__new__"=true)(a:aj P w K mg base 4 "check_are_weights" sN (ak mg 1 y_)):aj P w K mg base 5 "check_told" wQ (ak mg 2 C7):=by
 refine bF T WN λG H I J nd=>⟨_,(av (c7 (dL a G I (aa (vr 1) af)))
  (ay (eH dM rfl (cA (vr 1)) (ku rfl (dB (dG 2 nd) (dB (dG 3 nd) kB))) (ay (bJ (fF (e_ (dI (Ej rfl) EI l Ed (aa (eY none (own:=["table"]) (frees:=["name"]) (ix:=[2]) rfl (cA (vr 0)) (λc=>(pG 0 (show(["table","name"]:List Str).Nodup by decide+kernel))) (λc=>(NT J (vr 1) (vr 0)))) af)))) (ay (jr H rfl f g (aa (Nj (Fc (NF (vr 2) (Fc ND)))) af))) bM))))),λds A R h Y=>?_⟩
 obtain⟨r,Ts,rs,rfl,L,Z,M,s,q⟩:=h;obtain⟨j,h1,h2⟩:=L;have hz:(1000:Nat)<=sizeLine:=δ
 have u:=h2.len;refine⟨rfl,_,⟨rs,rfl,M,rfl⟩,λA1 N=>?_⟩;refine eG (λrest τ A'=>∃(dn d:List (Str×Int)) (x z:Option D),rest=d.map bH/\dn++d=rs/\τ=[some (.ref r),some (fc rs),x,z]/\Gr A A') ?_ ?_ ?_ _ _ _ ⟨[],rs,none,none,rfl,rfl,rfl,N⟩
 .intro _ _ _ _
  trivial
 .rintro v rest τ E ⟨dn,d,x,z,e,m,rfl,n⟩ Nx O
  cases d with
  |nil=>cases e
  |cons p d=>
  cases e;have S:p∈rs:=by rw[<-m];simp
  refine⟨rfl,d7 (n.get h1) ?_⟩;refine pI (λrest ys A'=>∃i,i<=j.length/\rest=(j.map D.ref).drop i/\ys=(Ts.take i).map (λT=>D.bl (decide (p.1∈aH T)))/\A'=E) ?_ ?_ ?_ ?_ _ _ _ ⟨0,bQ _,rfl,rfl,rfl⟩
  .rintro rest ys A' ⟨_,_,_,_,rfl⟩
   exact n.get h1
  .rintro rest ys A' ⟨i,hi,_,rfl,_⟩
   rw[aK,kR];omega
  .rintro y rest ys A' ⟨i,hi,e,rfl,rfl⟩
   by_cases o:i<j.length
   .obtain⟨t,F⟩:∃t,j[i]?=some t:=⟨j[i],a_ o⟩
    obtain⟨T0,U,V⟩:=h2.get F;have k:i<(j.map D.ref).length:=by rw[aK];exact o
    have ev:(j.map D.ref)[i]?=some (.ref t):=by rw[ck,F];rfl
    rw[lY k] at e;rw[a_ k] at ev;have ev:=Option.some.inj ev;rw[ev] at e;cases e;refine⟨[.ref t],rfl,λQ W=>Gu (V.gr n) rfl ?_⟩;rw[ao bU,F3];refine W _ _ ⟨i+1,ω,rfl,?_,rfl⟩;rw[take_succ,U,dP];rfl
   .rw[qK (by rw[aK];omega)] at e
    cases e
  .rintro ys A' ⟨i,hi,e,rfl,rfl⟩
   have hi:i=j.length:=by
    have:=cj List.length e;simp at this;omega
   rw[hi,u,qD (aF _)];refine DS aE (nJ (λT=>decide (p.1∈aH T)) Ts) ?_;obtain⟨T0,B,C⟩:=s p S;have X:((Ts.map λT=>decide (p.1∈aH T)).any id)=true:=by
    rw[any_map,jD];exact⟨T0,B,eL C⟩
   rw[X];exact O _ _ ⟨dn++[p],d,_,_,rfl,by simpa using m,rfl,n.trans Gr.push⟩
 .rintro τ E ⟨dn,d,x,z,e,m,rfl,n⟩
  exact q _ n
end My
namespace DP
open L2 MA
theorem Xs{s:Str->Rat}{p:Str×Int}(d:mq (s p.1))(h1:1<=p.2)(h2:p.2<=999999):0<f9 s p/\(rf (f9 s p)).1<=1152920351685342369153024/\(rf (f9 s p)).2<=1152921504606846976:=by
 have pn:=d8 d.pos;have f:=cR (s p.1);have pos2:(0:Rat)<(p.2:Rat):=by
  have:((0:Int):Rat)<(p.2:Rat):=yE.mpr ω;simpa using this
 have c:0<f9 s p:=by
  unfold f9;rw[lW];exact nv pos2 (uv.mpr d.pos)
 refine⟨c,?_⟩;have e:f9 s p=((p.2*(rf (s p.1)).2:Int):Rat)/((rf (s p.1)).1:Rat):=by
  unfold f9;have h1:=iB (kW f);have h2:=iB (kW pn);conv=>lhs;rw[<-gh (s p.1)]
  rw[j6];grind
 rw[e];obtain⟨k1,k2⟩:=s_ (a:=p.2*(rf (s p.1)).2) (b:=(rf (s p.1)).1) (f_ ω f) pn;have m:p.2*(rf (s p.1)).2<=999999*1152921504606846976:=dQ h2 d.den (dR f) δ;have n:=d.num;exact⟨ω,ω⟩
end DP
namespace My
open L2 DP MA
theorem Pk(T:TopD K mg "settled_group" JM xw){r:Addr}(F:mg "Never"=some (.ref r))(G:excIn K r jW "ValueError.__new__"=true)(f:aj P w K mg base 3 "product" ow (ak mg 2 kj))(u:aj P w K mg base 3 "quotient" qc (ak mg 2 (λds A R E=>∃a b c d:Int,ds=[.tup [.int a,.int b],.tup [.int c,.int d]]/\kj [.tup [.int a,.int b],.tup [.int d,.int c]] A R E))):aj P w K mg base 4 "settled_group" xw (ak mg 2 DF):=by
 refine bF T Xh λhr hR hx I nd=>⟨_,(av (bJ (d_ I (vr 1) (cE af)) (ay (aN (cE af))) bM)
  (av (dS 2 nd (dL u hr hx (aa (bW (aa (dX I (dX I (vr 1) ai) ai) (aa ai af))) (aa (dX I (vr 0) (dX I (dX I (vr 1) ai) ai)) af))))
  (av (eH dM rfl (cA (vr 1)) (ku rfl (dB (dG 3 nd) (dB (dG 4 nd) kB))) (ay (bJ (jV I (dL f hr hx (aa (vr 2) (aa (dX I (vr 0) (vr 3)) af))) (bW (aa (vr 4) (aa ai af)))) (ay (jr hR rfl F G (aa bE af))) bM)))
  (ay (aN (vd (eY none (own:=["name"]) (frees:=["scale","weights"]) (ix:=[2,0]) rfl (nN (vr 0)) (λc=>(pG 0 (show(["name","scale","weights"]:List Str).Nodup by decide+kernel))) (λc=>(bW (aa (vr 0) (aa (dL f hr m5 (aa (vr 1) (aa (dX I (vr 2) (vr 0)) af))) af))))))))))),λds A R h hl=>?_⟩
 obtain⟨q,kvs,ns,l,t,X,rfl,hq,fb,n32,hF,ht,z,k0,k1⟩:=h;have hz:(1000:Nat)<=sizeLine:=δ
 obtain⟨Vk,Vl⟩:=IB λp hp=>(z p hp).2.1;refine⟨bQ _,Fz ht Vk Vl ?_⟩;cases X with
 |nil=>exact⟨bQ _,k0 rfl _ _ (Gr.push.trans Gr.push) aE θ⟩
 |cons i k=>
 obtain⟨k2,k3⟩:=k1 i k rfl;clear k0 k1;refine cD (λc=>by cases c) (λ_=>?_);have O:=getElem?_push (T:=[C.lst []]) ht;have Y:=getElem?_push (T:=[C.lst []]) hq;have g1:Gr A (A++[C.lst []]):=Gr.push;generalize (A++[C.lst []]:Ar)=A1 at*
 obtain⟨r1,r2,r3,r4⟩:=z i (aT ..);have f0:=hF _ r1;have pn:=d8 f0.pos;have pd:=cR (l i.1);have a0:cY ((i::k).map bH) 0=some (bH i):=mC (j:=0) rfl;refine kF O a0 ⟨show 2<=sizeLine by omega,kF O a0 ?_⟩;refine fm Y rfl (fb.get _ r1) ?_;have DW:(1152921504606846976:Int)<2 ^ 64:=δ
 have n1:=f0.num;have n2:=f0.den;have big:∀x:Int,x<=1329226666556920087987934156473284295655424->x<2 ^ 2000:=λx hx=>qw hx (by
  have:(1329226666556920087987934156473284295655424:Int)<=(4000000000000:Int) ^ 5*4000000000000:=δ
  exact qw this (Bd δ))
 refine⟨rfl,i.2,1,(rf (l i.1)).1,(rf (l i.1)).2,rfl,_,_,_,_,rfl,ω,δ,pd,pn,ω,ω,?_,λA2 g2=>?_⟩
 .refine big _ ?_
  have:i.2*(rf (l i.1)).2<=999999*1152921504606846976:=dQ r4 n2 (dR pd) δ;omega
 have ec:((i.2:Rat)/((1:Int):Rat))*(((rf (l i.1)).2:Rat)/((rf (l i.1)).1:Rat))=f9 l i:=by
  unfold f9;have h1:=iB (kW pd);have h2:=iB (kW pn);have h3:((1:Int):Rat)=1:=rfl;conv=>rhs;rw[<-gh (l i.1)]
  rw[h3];grind
 rw[ec];obtain⟨c1,c2,c3⟩:=Xs (s:=l) (p:=i) f0 r3 r4;generalize hc:f9 l i=c at*
 have H:∀(n:Str) (A':Ar) (Q:DK) (EX:DX),n∈ns->(∀S,Gr A' S->Q (fq (c*l n)) S)->kj [fq c,fq (l n)] A' Q EX:=λn A' Q EX hn hQ=>by
  have fn:=hF n hn;have m1:=d8 fn.pos;have m2:=cR (l n);have m3:=fn.num;have m4:=fn.den;refine⟨_,_,_,_,rfl,d8 c1,cR c,m1,m2,ω,ω,?_,λS g=>?_⟩
  .refine big _ ?_
   have:(rf c).1*(rf (l n)).1<=1152920351685342369153024*1152921504606846976:=dQ c2 m3 (dR m1) δ;omega
  .rw[gh,gh]
   exact hQ _ g
 have Z:=g2.get Y;have Gm:=g2.get O;refine d7 Gm ?_;have vE:=g1.trans g2;refine eG (λrest τ A'=>∃(dn mo:List (Str×Int)) (x3 x4:Option D),rest=mo.map bH/\dn++mo=i::k/\τ=[some (.ref q),some (.ref t),some (fq c),x3,x4]/\(∀p∈dn,c*l p.1=(p.2:Rat))/\Gr A2 A') ?_ ?_ ?_ _ _ _ ⟨[],i::k,none,none,rfl,rfl,rfl,λ_ h=>(by cases h),Gr.refl⟩
 .rintro rest τ A' ⟨_,_,_,_,_,_,_,_,g⟩
  exact g.get Gm
 .rintro v rest τ A3 ⟨dn,mo,x3,x4,e,B,rfl,J,W⟩ Nx hN
  cases mo with
  |nil=>cases e
  |cons p mo=>
  cases e;have hp:p∈i::k:=by rw[<-B];simp
  obtain⟨pr,_,_,_⟩:=z p hp;refine⟨rfl,fm (W.get Z) rfl (fb.get _ pr) ⟨rfl,H p.1 A3 _ _ pr λA4 g4=>⟨show 2<=sizeLine by omega,?_⟩⟩⟩;have e1:D.tup [.int p.2,.int 1]=fq ((p.2:Int):Rat):=(PK p.2).symm;rw[e1];refine v9 ?_;refine cN (λc5=>?_) (λc5=>?_)
  .exact⟨show 1<=sizeLine by omega,k3 (λhall=>c5 (hall p hp)) _ ((vE.trans W).trans g4)⟩
  .exact hN _ _ ⟨dn++[p],mo,_,_,rfl,by simpa using B,rfl,λy hy=>by
    rcases bX.mp hy with h|h
    .exact J y h
    .rw[bI.mp h]
     exact c5,W.trans g4⟩
 .rintro τ A3 ⟨dn,mo,x3,x4,e,B,rfl,J,W⟩
  cases mo with
  |cons _ _=>cases e
  |nil=>
  have B:dn=i::k:=by simpa using B
  rw[B] at J;have k4:=k2 J;have U:=W.get Z;have hlt:=cy U;have FU:=vE.trans W;refine .inl ⟨q,kvs,U,λo=>?_⟩;generalize V:A3.set q (.bw o kvs)=B1;have L:B1[q]?=some (.bw o kvs):=by rw[<-V];exact eF hlt
  refine pZ L ?_;have ek:(kvs.map λp=>keyOf p.1)=ns.map D.str:=by
   have:(kvs.map λp=>keyOf p.1)=(kvs.map (·.1)).map keyOf:=by rw[bK];rfl
   rw[this,fb.keys,bK];rfl
  rw[ek];refine pJ (λd=>match d with|.str m=>ff (λn=>c*l n) m|d=>d) _ [] B1 (λA' g=>g.get L) (λd hd' B2 M=>?_) (by simp;omega) (λB2 M=>?_)
  .obtain⟨m,hm,rfl⟩:=aM.mp hd'
   refine⟨[.str m],rfl,λQ hQ=>?_⟩;refine su (M.get L) rfl (fb.get m hm) ⟨rfl,H m B2 _ _ hm λB3 PR=>⟨show 2<=sizeLine by omega,hQ _ PR⟩⟩
  have em:(ns.map D.str).map (λd=>match d with|.str m=>ff (λn=>c*l n) m|d=>d)=ns.map (ff λn=>c*l n):=by
   rw[bK];rfl
  rw[fC,em];have N:Gr B1 (B2++[C.lst (ns.map (ff λn=>c*l n))]):=M.trans Gr.push;have l2:A3.length<=B2.length:=by
   have:=M.len;rw[<-V,length_set] at this;exact this
  refine⟨kvs,N.get L,?_⟩;have gF:=Kz U (by rw[V];exact N);refine k4 _ _ (FU.trans gF) ?_ (by have:=FU.len;omega);rw[eE ω];exact aE
end My
namespace DP
open L2 MA
noncomputable def f7(rs:List (Str×Int))(P:aS):List (Str×Int):=rs.filter λp=>decide (p.1∈aC P)
noncomputable def fL(Ts:List Tb)(rs:List (Str×Int))(P:aS):List (Str×Rat):=match f7 rs P with
 |[]=>[]
 |p0::_=>(aC P).map λn=>(n,f9 (dD Ts P) p0*dD Ts P n)
noncomputable def qf(Ts:List Tb)(rs:List (Str×Int)):List (Str×Rat):=(bG Ts).flatMap (fL Ts rs)
noncomputable def di(p:Str×Rat):D:=.tup [.str p.1,fq p.2]
def zq(Ts:List Tb)(rs:List (Str×Int)):Prop:=∀P∈bG Ts,∀p0 more,f7 rs P=p0::more->∀p∈f7 rs P,f9 (dD Ts P) p0*dD Ts P p.1=(p.2:Rat)
def SSet:Ct:=λds A R E=>∃x NN rs,ds=[x,fc rs]/\(∃ms,iz x ms)/\(∀n∈NN,Nm n)/\jm rs/\(∀ms,iz x ms->eV (ms.map aQ) NN/\(∀p∈rs,∃T∈ms.map aQ,p.1∈aH T)/\(i9 (ms.map aQ)≠none->∀A',Gr A A'->E "Never" A')/\(i9 (ms.map aQ)=none->(∀P∈bG (ms.map aQ),∀n∈aC P,mq (dD (ms.map aQ) P n))/\
 (zq (ms.map aQ) rs->∀A' q (es:List (Str×Rat)),Gr A A'->es.Perm (qf (ms.map aQ) rs)->(es.map (·.1)).Pairwise strLt->A'[q]?=some (.lst (es.map di))->A.length<=q->R (.ref q) A')/\(¬zq (ms.map aQ) rs->∀A',Gr A A'->E "Never" A')))/\((¬∃ms,iz x ms)->∀A',Gr A A'->E "NoHall" A')
theorem J5{p:Str×Rat}(h:Nm p.1):gf (di p)=true/\(toQ (di p)).canLay0=true/\(toQ (di p)).depth<=60/\∃x r,toQ (di p)=.tuple (.str x::r):=by
 have h1:=h.ok;refine⟨rfl,?_,?_,_,_,rfl⟩
 .simp[di,fq,toQ,bR,canLay0,canLayAll0] at h1 ⊢
  exact h1
 .simp[di,fq,toQ,bR,PyData.depth,depthAll]
theorem Xn{a b:Str×Rat}(h:a.1=b.1->a=b):ltQ (toQ (di a)) (toQ (di b))=some (gj.blt (mQ (di a)) (mQ (di b))):=by
 show ltQ (.tuple [.str a.1,toQ (fq a.2)]) (.tuple [.str b.1,toQ (fq b.2)])=some (gj.blt a.1.cps.toList b.1.cps.toList);by_cases c:a.1=b.1
 .have e:=h c
  subst e;rw[ltQ,gj.irrefl,gy];have d:PyData.eqv (.str a.1) (.str a.1)=true:=by simp[PyData.eqv]
  rw[d];show gy [toQ (fq a.2)] [toQ (fq a.2)]=_;rw[gy];have f:PyData.eqv (toQ (fq a.2)) (toQ (fq a.2))=true:=by simp[fq,toQ,bR,PyData.eqv,eqvAll]
  rw[f];rfl
 .rw[ltQ,gy]
  have c':PyData.eqv (.str a.1) (.str b.1)=false:=by simpa[PyData.eqv] using c
  rw[c'];show ltQ (.str a.1) (.str b.1)=_;rw[ltQ]
theorem DU:∀{ds:List D},(∀d∈ds,∃p,d=di p)->∃rs:List (Str×Rat),ds=rs.map di
 |[],_=>⟨[],rfl⟩
 |d::ds,h=>by
  obtain⟨rs,rfl⟩:=DU (ds:=ds) λx a=>h x (bq _ a);obtain⟨p,rfl⟩:=h d (aT ..);exact⟨p::rs,rfl⟩
theorem UW{rs qs:List (Str×Rat)}(h:(rs.map di).Perm (qs.map di)):rs.Perm qs:=by
 have inv:∀l:List (Str×Rat),(l.map di).map (λd=>match d with|.tup [.str n,.tup [.int a,.int b]]=>(n,(a:Rat)/(b:Rat))|_=>(("":Str),(0:Rat)))=l:=λl=>by
  rw[bK];have:((λd=>match d with|D.tup [.str n,.tup [.int a,.int b]]=>(n,(a:Rat)/(b:Rat))|_=>(("":Str),(0:Rat)))∘di)=id:=by
   funext p;show(p.1,((rf p.2).1:Rat)/((rf p.2).2:Rat))=p;rw[gh]
  rw[this,map_id]
 have:=h.map (λd=>match d with|.tup [.str n,.tup [.int a,.int b]]=>(n,(a:Rat)/(b:Rat))|_=>(("":Str),(0:Rat)));rw[inv,inv] at this;exact this
theorem xM(Ts:List Tb)(rs:List (Str×Int))(P:aS):(fL Ts rs P).map (·.1)=if f7 rs P=[] then [] else aC P:=by
 unfold fL;cases f7 rs P with
 |nil=>rfl
 |cons a m=>
  rw[ao θ];show((aC P).map _).map _=_;rw[bK];exact map_id _
theorem J4{Ts:List Tb}{rs:List (Str×Int)}:∀{Gs:List aS},Gs.Pairwise (λP Q=>∀m,m∈aC P->m∉aC Q)->(∀P∈Gs,(aC P).Nodup)->((Gs.flatMap (fL Ts rs)).map (·.1)).Nodup/\∀x,x∈(Gs.flatMap (fL Ts rs)).map (·.1)->x∈fu Gs
 |[],_,_=>⟨oO,λx h=>by simp at h⟩
 |P::Gs,hd,e=>by
  obtain⟨f,g⟩:=gU.mp hd;obtain⟨i1,i2⟩:=J4 (Ts:=Ts) (rs:=rs) g λQ c=>e Q (bq _ c);have n1:=xM Ts rs P;have sub:∀x∈(fL Ts rs P).map (·.1),x∈aC P:=λx hx=>by
   rw[n1] at hx;split at hx
   .cases hx
   .exact hx
  rw[qP,dP];constructor
  .rw[oM]
   refine⟨?_,i1,λa i b j z=>?_⟩
   .rw[n1]
    split
    .exact oO
    .exact e P (aT ..)
   .subst z
    obtain⟨Q,c,d⟩:=gz.mp (show a∈Gs.flatMap aC from i2 a j);exact f Q c a (sub a i) d
  .intro x hx
   rcases bX.mp hx with hx|hx
   .exact gz.mpr ⟨P,aT ..,sub x hx⟩
   .obtain⟨Q,c,d⟩:=gz.mp (show x∈Gs.flatMap aC from i2 x hx)
    exact gz.mpr ⟨Q,bq _ c,d⟩
theorem J3(Ts:List Tb)(rs:List (Str×Int))(P:aS):(fL Ts rs P).length<=(aC P).length:=by
 have:=cj List.length (xM Ts rs P);rw[aK] at this;rw[this];split
 .exact bQ _
 .exact aF _
theorem FG{f:aS->List (Str×Rat)}{k:Nat}:∀{l:List aS},(∀P∈l,(f P).length<=k)->(l.flatMap f).length<=k*l.length
 |[],_=>by simp
 |P::l,h=>by
  have h1:=FG (l:=l) λQ a=>h Q (bq _ a);have h2:=h P (aT ..);rw[qP,cM,gm,Nat.mul_succ];omega
theorem S5{l:List (Str×Rat)}(h:(l.map (·.1)).Nodup):∀a∈l,∀b∈l,a.1=b.1->a=b:=by
 induction l with
 |nil=>intro a d;cases d
 |cons x l g=>
  obtain⟨h1,h2⟩:=iK.mp (show(x.1::l.map (·.1)).Nodup from h);intro a d b i c;rcases aY.mp d with e|ha'<;>rcases aY.mp i with f|hb'
  .rw[e,f]
  .exact absurd (by rw[<-e,c];exact cX hb') h1
  .exact absurd (by rw[<-f,<-c];exact cX ha') h1
  .exact g h2 a ha' b hb' c
theorem Xo{rs:List (Str×Rat)}(f:(rs.map (·.1)).Nodup)(e:(rs.map di).Pairwise (λa b=>gj.kle (mQ a) (mQ b))):(rs.map (·.1)).Pairwise strLt:=by
 rw[jA] at e;have d:rs.Pairwise λa b=>a.1≠b.1:=jA.mp f;refine jA.mpr ((e.and d).imp ?_);rintro a b ⟨k1,k2⟩;have k1:gj.blt b.1.cps.toList a.1.cps.toList=false:=k1;have k3:gj.blt a.1.cps.toList b.1.cps.toList=true:=by
  cases c:gj.blt a.1.cps.toList b.1.cps.toList with
  |true=>rfl
  |false=>exact absurd (Ko (gj.total _ _ c k1)) k2
 exact show a.1.cps.toList<b.1.cps.toList from gD k3
end DP
namespace My
open L2 DP MA
theorem Pj(T:TopD K mg "settled" JL xu)(s:mg "sorted"=none)(j:aj P w K mg base 13 "hall_shares" sR (ak mg 1 zd))(k:aj P w K mg base 5 "check_told" wQ (ak mg 2 C7))(b:aj P w K mg base 6 "check_no_ring" wN (ak mg 1 Dw))(u:aj P w K mg base 3 "groups" p_ (ak mg 1 uJ))(f:aj P w K mg base 4 "settled_group" xw (ak mg 2 DF))(g:aj P w K mg base 5 "group_weights" wW (ak mg 2 C_)):aj P w K mg base 14 "settled" xu (ak mg 2 SSet):=by
 refine bF T Xg λhr hR M hu nd=>⟨_,(av (dS 2 nd (dL j hr M (aa (vr 0) af)))
  (av (c7 (dL k hr M (aa (vr 2) (aa (vr 1) af))))
  (av (c7 (dL b hr M (aa (vr 2) af)))
  (av (dS 3 nd (cE af))
  (av (eH dM rfl (cA (dL u hr M (aa (vr 2) af))) (dG 4 nd) (av (NI none (own:=["pair"]) (frees:=["paths"]) (ix:=[4]) (i:=5) nd rfl (by first|exact Or.inl rfl|exact Or.inr rfl) rfl (cA (vr 1)) (λc=>(pG 0 (show(["pair","paths"]:List Str).Nodup by decide+kernel))) (λc=>(xT hu (dX hu (vr 0) ai) (vr 1))) (λc=>(vr 0)))
  (ay (c7 (gM gV yk yr v7 u5 (vr 3) (aa (dL f hr M (aa (dL g hr M (aa (vr 2) (aa (vr 4) af))) (aa (vr 5) af))) af))))))
  (ay (aN (dI (Em rfl hu) ER s uw (aa (vr 3) af))))))))),λds A R h hl=>?_⟩
 obtain⟨x,NN,rs,rfl,hk,Am,hW,q1,q2⟩:=h;have hz:(1000:Nat)<=sizeLine:=δ
 refine⟨rfl,x,rfl,hk,λms hH A1 r g1 hB l1=>?_,λS A1 g1=>q2 S _ g1⟩;obtain⟨hok,hin,q5,q4⟩:=q1 ms hH;refine⟨rfl,r,_,rs,rfl,hB,hok.len,hW,hin,λZn U=>?_⟩;have Gd:=hB.gr U;refine⟨rfl,r,_,NN,rfl,Gd,hok,λe E g2=>?_,λe E g2=>q5 e _ ((g1.trans U).trans g2)⟩;obtain⟨hF,q6,q7⟩:=q4 e;have hB2:=Gd.gr g2;have V:=(g1.trans U).trans g2;clear q1 q2 q4 q5;generalize ZF:ms.map aQ=Ts at*
 refine⟨bQ _,rfl,r,Ts,NN,rfl,hB2.gr Gr.push,hok,λA3 q3 g3 hG=>?_⟩;obtain⟨lq,gs,Gi,W⟩:=hG;have p5:=W.len;have X:(E++[C.lst []]).length=E.length+1:=θ
 rw[X] at W lq;have gl:(bG Ts).length<=12:=by
  have:=F9 (Gs:=bG Ts) (NN:=NN) (λP hP=>?_) (rZ hok)
  .have:=hok.nn
   omega
  .obtain⟨n,S,_,rfl⟩:=iV hok hP
   exact⟨n,(gQ hok S).2.1,S⟩
 have QS:A3[E.length]?=some (.lst []):=g3.get aE;have lrs:=hW.len;refine d7 Gi ?_;refine eG (λrest τ A'=>∃(dn a:List Nat) (i:Nat) (x4 x5:Option D),rest=a.map D.ref/\dn++a=gs/\i=dn.length/\τ=[some x,some (fc rs),some (.ref r),some (.ref E.length),x4,x5]/\A'[E.length]?=some (.lst ((((bG Ts).take i).flatMap (fL Ts rs)).map di))/\A'[q3]?=some (.lst (gs.map D.ref))/\fD (E.length+1) A' gs (bG Ts)/\Gr E A'/\(∀P∈(bG Ts).take i,∀I a,f7 rs P=I::a->∀p∈f7 rs P,f9 (dD Ts P) I*dD Ts P p.1=(p.2:Rat))) ?_ ?_ ?_ _ _ _ ⟨[],gs,0,none,none,rfl,rfl,rfl,rfl,QS,Gi,W,Gr.push.trans g3,λP h=>by simp at h⟩
 .rintro rest τ A' ⟨_,_,_,_,_,_,_,_,_,_,h,_⟩
  exact h
 .rintro v rest τ A4 ⟨dn,a,i,x4,x5,e1,y,hi,rfl,B,r9,Y,g4,J⟩ Nx hN
  cases a with
  |nil=>cases e1
  |cons t a=>
  cases e1;have hgt:gs[i]?=some t:=by rw[hi,<-y];simp
  obtain⟨Pg,Gg,Gh⟩:=Y.get hgt;have F:=cS Gg;obtain⟨n,S,_,NR⟩:=iV hok F;subst NR;obtain⟨xE,pin,_⟩:=gQ hok S;have Z6:=xE.len;have SY:=hok.nn;have ZX:(aC (aO Ts n)).length=(aO Ts n).length:=by simp[aC]
  obtain⟨lt',ZO,Qu,QC,ZI⟩:=id Gh;refine uX bH (λp=>decide (p.1∈aC (aO Ts n))) bH rs [] A4 (λ_ _=>trivial) (λp hp Z g5=>?_) (by simp;omega) (λZ g5=>?_)
  .refine⟨[bH p],rfl,λQ hQ=>?_,λA6 g6 Q hQ=>hQ _ Gr.refl⟩
   refine iG (g5.get Qu) rfl ?_;rw[ao bU,sA QC];exact hQ _ Gr.refl
  rw[fC];have QD:(Z++[C.lst ((f7 rs (aO Ts n)).map bH)])[Z.length]?=some (.lst ((f7 rs (aO Ts n)).map bH)):=aE;have G:=g5.trans (Gr.push (T:=[C.lst ((f7 rs (aO Ts n)).map bH)]));have Qa:(Z++[C.lst ((rs.filter λp=>decide (p.1∈aC (aO Ts n))).map bH)]:Ar)=Z++[C.lst ((f7 rs (aO Ts n)).map bH)]:=rfl;rw[Qa];generalize Qc:(Z++[C.lst ((f7 rs (aO Ts n)).map bH)]:Ar)=A6 at*
  have Gn:=G.get B;refine⟨gx Gn,rfl,r,t,Ts,NN,n,E,rfl,hB2,g4.trans G,hok,S,(Gh.gr G).lo ω,λA7 p kvs g7 h7 l7 fb=>?_⟩;have pP:((bG Ts).take (i+1))=(bG Ts).take i++[aO Ts n]:=by
   rw[take_succ,Gg];rfl
  have fin:∀(L:Ar) (N:Nat) (x5:Option D) (bx:bO),Gr A7 L->L[N]?=some (.lst ((fL Ts rs (aO Ts n)).map di))->A7.length<=N->(∀I a,f7 rs (aO Ts n)=I::a->∀p∈f7 rs (aO Ts n),f9 (dD Ts (aO Ts n)) I*dD Ts (aO Ts n) p.1=(p.2:Rat))->bx=[some x,some (fc rs),some (.ref r),some (.ref E.length),some (.ref t),x5]->rX E.length N L λ_ A'=>Nx bx A':=λL N x5 bx O h8 l8 o r_=>by
   have Gp:=O.get (g7.get Gn);have Ac:=(G.trans g7).trans O;have sz:((((bG Ts).take i).flatMap (fL Ts rs)).map di).length+((fL Ts rs (aO Ts n)).map di).length<=sizeLine:=by
    have b1:(((bG Ts).take i).flatMap (fL Ts rs)).length<=12*((bG Ts).take i).length:=FG λQ hQ=>by
     obtain⟨n',H,_,rfl⟩:=iV hok (qy hQ);have:=J3 Ts rs (aO Ts n');have:=(gQ hok H).1.len;simp[aC] at*
     omega
    have b2:=J3 Ts rs (aO Ts n);have b3:((bG Ts).take i).length<=12:=by rw[kR];omega
    rw[aK,aK];omega
   refine vB Gp h8 sz ?_;refine hN _ _ ⟨dn++[t],a,i+1,_,_,rfl,by simpa using y,by simp[hi],r_,?_,?_,?_,(g4.trans Ac).set (aF _),λP hP=>?_⟩
   .rw[pP,qO,dP]
    have:([aO Ts n].flatMap (fL Ts rs))=fL Ts rs (aO Ts n):=θ
    rw[this];exact eF (cy Gp)
   .rw[eE ω]
    exact Ac.get r9
   .exact Y.kI λq P hP=>(hP.gr Ac).set ω
   .rw[pP] at hP
    rcases bX.mp hP with hP|hP
    .exact J P hP
    .rw[bI.mp hP]
     exact o
  refine⟨rfl,p,kvs,_,_,Z.length,f7 rs (aO Ts n),rfl,h7,fb,ω,λm hm=>hF _ F m hm,g7.get QD,λp' Aq=>?_,λh0 L N O h8 l8=>?_,λI mo h0=>⟨λo L N O h8 l8=>?_,λhbad L O=>?_⟩⟩
  .obtain⟨m1,m2⟩:=nh.mp Aq
   exact⟨gD m2,hW.nm _ m1,hW.no _ m1⟩
  .refine fin L N _ _ O ?_ l8 (λI mo z=>by rw[h0] at z;cases z) rfl
   have:fL Ts rs (aO Ts n)=[]:=by unfold fL;rw[h0]
   rw[this];exact h8
  .refine fin L N _ _ O ?_ l8 (λZ5 mo' z=>by rw[h0] at z;cases z;exact o) rfl
   have:(fL Ts rs (aO Ts n)).map di=(aC (aO Ts n)).map (ff λm=>f9 (dD Ts (aO Ts n)) I*dD Ts (aO Ts n) m):=by
    unfold fL;rw[h0];show((aC (aO Ts n)).map _).map di=_;rw[bK];rfl
   rw[this];exact h8
  .exact q7 (λQM=>hbad (QM _ F I mo h0)) _ (((V.trans g4).trans G).trans (g7.trans O))
 .rintro τ A4 ⟨dn,a,i,x4,x5,e1,y,hi,rfl,B,r9,Y,g4,J⟩
  cases a with
  |cons _ _=>cases e1
  |nil=>
  have y:dn=gs:=by simpa using y
  have hil:i=(bG Ts).length:=by rw[hi,y,p5]
  rw[hil,qD (aF _)] at B J;have B:A4[E.length]?=some (.lst ((qf Ts rs).map di)):=B;obtain⟨t1,t2⟩:=J4 (Ts:=Ts) (rs:=rs) (rZ hok) λP hP=>by
   obtain⟨n',H,_,rfl⟩:=iV hok hP;exact(gQ hok H).1.nd
  have inN:∀x∈(qf Ts rs).map (·.1),x∈NN:=λx M=>by
   obtain⟨Q,hQ,hq⟩:=gz.mp (show x∈(bG Ts).flatMap aC from t2 x M);obtain⟨n',H,_,rfl⟩:=iV hok hQ;exact(gQ hok H).1.sub x hq
  have R4:(qf Ts rs).length<=12:=by
   have:=jS _ NN t1 inN;have:=hok.nn;rw[aK] at*
   exact cC (by assumption) (by assumption)
  have same:=S5 (l:=qf Ts rs) t1;refine Kg gj mQ B (by rw[aK];omega) (λd hd=>?_) (λd hd e he=>?_) λes pe se=>?_
  .obtain⟨p,hp,rfl⟩:=aM.mp hd
   exact J5 (Am _ (inN _ (cX hp)))
  .obtain⟨p,hp,rfl⟩:=aM.mp hd
   obtain⟨p',Aq,rfl⟩:=aM.mp he;exact Xn (same p hp p' Aq)
  obtain⟨zs,rfl⟩:=DU (ds:=es) λd hd=>by
   obtain⟨p,_,rfl⟩:=aM.mp (pe.mem_iff.mp hd);exact⟨p,rfl⟩
  have pr:=UW pe;exact q6 J _ _ zs ((V.trans g4).trans Gr.push) pr (Xo ((pr.map (·.1)).nodup_iff.mpr t1) se) aE (by have:=(V.trans g4).len;omega)
end My
namespace DP
open L2 MA
noncomputable def N6:List Str:=["a","b","c","d","e","f"]
theorem kN:∀n∈N6,Nm n:=λn a=>by
 simp only[N6,aY,fP,fQ] at a;rcases a with rfl|rfl|rfl|rfl|rfl|rfl<;>exact⟨η,η,η⟩
theorem Y3:N6.Pairwise strLt:=by
 have:∀a b:Str,(decide (a.cps.toList<b.cps.toList))=true->strLt a b:=λa b h=>show a.cps.toList<b.cps.toList from gD h
 simp only[N6,gU,aY,fP,fQ];refine⟨λb c=>?_,λb c=>?_,λb c=>?_,λb c=>?_,λb c=>?_,λb c=>c.elim,.nil⟩;all_goals
  refine this _ _ ?_
 .rcases c with rfl|rfl|rfl|rfl|rfl<;>decide+kernel
 .rcases c with rfl|rfl|rfl|rfl<;>decide+kernel
 .rcases c with rfl|rfl|rfl<;>decide+kernel
 .rcases c with rfl|rfl<;>decide+kernel
 .rcases c with rfl<;>decide+kernel
def One(m:M):Prop:=(∃n∈N6,m=.wt n)\/∃(l r:Int) (a b:Str),m=.bS l r (.wt a) (.wt b)/\(1<=l/\l<=9)/\(1<=r/\r<=9)/\a∈N6/\b∈N6/\a≠b
def Dc:Ct:=λds A R _=>∃ns t n,ds=[.fl ns,.ref t]/\Tw t n A/\n+200<=1000000/\∀(ms:List M) A',1<=ms.length->ms.length<=5->(∀m∈ms,One m)->Dr t A A' n 200->R (.tup (ms.map enc)) A'
theorem Iz{k i:Nat}{v:D}{rest:List D}(h:v::rest=(fK 0 k).drop i):v=.int ((i:Nat):Int)/\rest=(fK 0 k).drop (i+1)/\i<k:=by
 have l:(fK 0 k).length=k:=by simp[fK]
 have hi:i<k:=by
  have:=cj List.length h;rw[qu,l] at this;simp at this;omega
 rw[lY ω,List.cons.injEq] at h;refine⟨?_,h.2,hi⟩;rw[h.1];simp[fK]
theorem V7{k i:Nat}(h:[]=(fK 0 k).drop i)(hi:i<=k):i=k:=by
 have l:(fK 0 k).length=k:=by simp[fK]
 have:=cj List.length h;rw[qu,l] at this;simp at this;omega
theorem cH.Xq{t q:Nat}{A A':Ar}{c:C}(h:cH t A A')(b:A.length<=q):cH t A (A'.set q c):=λp d a hd=>by
 rw[eE (by have:=cy hd;omega)];exact h p d a hd
theorem G7{l r:Int}(h:¬(if r>l then r else l)>9):l<=9/\r<=9:=by
 split at h<;>omega
theorem cH.len{t:Nat}{A A':Ar}(h:cH t A A')(b:t<A'.length):A.length<=A'.length:=by
 by_cases e:A.length=0
 .omega
 by_cases a:A.length - 1=t
 .omega
 .have:=cy (h (A.length - 1) _ a (a_ ω))
  omega
end DP
namespace My
open L2 DP MA
theorem OL(T:TopD K mg "_law_hall" IS wC)(H:mg "dict"=none)(E:mg "range"=none)(O:mg "max"=none)(F:mg "tuple"=none)(c:aj P w K mg base 3 "_law_draw" kO (ak mg 3 mw))(d:aj P w K mg base 4 "_law_pick" mX (ak mg 3 nH))(f:aj P w K mg base 5 "_law_weights" sM (ak mg 3 zo)):aj P w K mg base 6 "_law_hall" wC (ak mg 2 Dc):=by
 refine bF T Wt λQ hR B Z nd=>⟨_,(av (dS 2 nd (dL c Q B (aa (vr 0) (aa (vr 1) (aa ai af)))))
  (av (dS 3 nd (c6 ai (dL c Q B (aa (vr 0) (aa (vr 1) (aa ai af))))))
  (av (dS 4 nd (zQ (cE (@aa _ _ _ _ _ _ bE (@aa _ _ _ _ _ _ bE (@aa _ _ _ _ _ _ bE (@aa _ _ _ _ _ _ bE (@aa _ _ _ _ _ _ bE (@aa _ _ _ _ _ _ bE af qe) qe) qe) qe) qe) qe)) zV (zW (c6 ai (dL c Q B (aa (vr 0) (aa (vr 1) (aa ai af))))))))
  (av (dS 5 nd (ie (mD rfl) mH H nA (aa (dL f Q B (aa (vr 0) (aa (vr 1) (aa (vr 4) af)))) af)))
  (av (dS 6 nd (cE af))
  (av (eH dM rfl (zT E (aa (vr 3) af)) (dG 7 nd) (av (vp (i:=8) (j:=9) rfl nd rfl rfl δ rfl rfl (aa (dL d Q B (aa (vr 0) (aa (vr 1) (aa (vr 4) af)))) (aa (dL d Q B (aa (vr 0) (aa (vr 1) (aa (vr 4) af)))) af)) rfl)
  (av (vp (i:=10) (j:=11) rfl nd rfl rfl δ rfl rfl (aa (dX Z (vr 5) (vr 9)) (aa (dX Z (vr 5) (vr 8)) af)) rfl)
  (av (bJ (PW.pt (pN (d_ Z (vr 2) ai) (rV (d_ Z (vr 7) (rS (vr 3) ai))))) (ay (dS 10 nd (c6 ai (dL c Q B (aa (vr 0) (aa (vr 1) (aa ai af))))))) bM)
  (ay (bJ (PW.pt (gO (d_ Z (vr 8) (vr 9)) (iE (BR (dI (Mg rfl) M9 O boot_max (aa (vr 10) (aa (vr 11) af))) ai)))) (ay (c7 (gM gV jC jE iY jq (vr 6) (aa (bW (aa bE (aa (vr 8) af))) af)))) (ay (c7 (gM gV jC jE iY jq (vr 6) (aa (bW (aa bE (aa (vr 10) (aa (vr 11) (aa (bW (aa bE (aa (vr 8) af))) (aa (bW (aa bE (aa (vr 9) af))) af)))))) af))))))))))
  (ay (aN (ie rJ rQ F j7 (aa (vr 6) af)))))))))),λds A R h hl=>?_⟩
 obtain⟨ns,t,n,rfl,ht,hn,q⟩:=h;have hz:(1000:Nat)<=sizeLine:=δ
 obtain⟨xs0,QT,_⟩:=id ht;have Sv:=cy QT;refine⟨rfl,ns,t,3,n,rfl,ht,ω,δ,λway A1 w0 w1 b1 t1=>?_⟩;refine⟨rfl,ns,t,5,n+1,rfl,t1,ω,δ,λmany A2 m0 m1 b2 t2=>?_⟩;refine⟨show 6<=sizeLine by omega,rfl,ns,t,5,n+2,rfl,t2.gr Gr.push,ω,δ,λsome u s0 s1 b3 t3=>?_⟩;have DV:cH t A u:=((b1.trans b2).trans Gr.push.but).trans b3;have ZR:t<A2.length:=by obtain⟨_,h,_⟩:=id t2;exact cy h
 have hnm:u[A2.length]?=_:=b3 _ _ ω aE;refine Xy hnm ?_;obtain⟨k,rfl⟩:∃k:Nat,some=((k:Nat):Int):=⟨some.toNat,ω⟩;have NV:cutD [D.str "a",.str "b",.str "c",.str "d",.str "e",.str "f"] none (Option.some (2+((k:Nat):Int)))=(N6.take (2+k)).map D.str:=by
  have:=ME (xs:=N6.map D.str) (i:=2+k) (by simp[N6];omega);rw[List.map_take,<-this];rfl
 rw[NV];generalize s:N6.take (2+k)=l;have sub:∀x∈l,x∈N6:=λx B=>by rw[<-s] at B;exact qy B
 have Hw:l≠[]:=λz=>by
  rw[<-s] at z;have:=cj List.length z;simp[N6] at this
 have Z4:l.length<=6:=by rw[<-s];simp[N6];omega
 have R6:t<u.length:=by obtain⟨_,h,_⟩:=id t3;exact cy h
 refine⟨rfl,ns,t,u.length,l,n+3,rfl,ω,aE,by rw[<-s];exact Y3.sublist (List.take_sublist ..),λx B=>kN x (sub x B),ω,t3.gr Gr.push,ω,λrs g hW I d4=>?_⟩;have r9:g[u.length]?=_:=d4.but _ _ ω aE;have LX:cH t A g:=(DV.trans Gr.push.but).trans d4.but;refine vg hW ?_;have ZT:u.length<g.length:=cy r9;have ZP:A.length<=u.length:=DV.len R6;refine⟨bQ _,ω,ω,?_⟩;obtain⟨L,rfl⟩:∃L:Nat,many=((L:Nat):Int):=⟨many.toNat,ω⟩;have NZ:((1:Int)+((L:Nat):Int)).toNat=1+L:=ω
 rw[NZ];have t5:Tw t (n+103) (g++[C.dct (c_ rs)]++[C.lst []]):=((d4.tw.gr Gr.push).gr Gr.push).mono ω;have LY:cH t A (g++[C.dct (c_ rs)]++[C.lst []]):=(LX.trans Gr.push.but).trans Gr.push.but;have QK:=getElem?_push (T:=[C.lst []]) (getElem?_push (T:=[C.dct (c_ rs)]) r9);have Qv:(g++[C.dct (c_ rs)]++[C.lst []])[g.length]?=some (.dct (c_ rs)):=getElem?_push aE;have eM:(g++[C.dct (c_ rs)]).length=g.length+1:=θ
 have QE:(g++[C.dct (c_ rs)]++[C.lst []])[g.length+1]?=some (.lst []):=by rw[<-eM];exact aE
 rw[eM];refine eG (λrest τ A'=>∃(ms:List M) (S U V o p:Option D),rest=(fK 0 (1+L)).drop ms.length/\ms.length<=1+L/\(∀m∈ms,One m)/\τ=[some (.fl ns),some (.ref t),some (.int way),some (.int (1+((L:Nat):Int))),some (.ref u.length),some (.ref g.length),some (.ref (g.length+1)),S,U,V,o,p]/\A'[u.length]?=some (.lst (l.map D.str))/\A'[g.length]?=some (.dct (c_ rs))/\A'[g.length+1]?=some (.lst (ms.map enc))/\cH t A A'/\Tw t (n+103+3*ms.length) A') ?_ ?_ ?_ _ _ _ ⟨[],none,none,none,none,none,rfl,θ,λ_ h=>(by cases h),rfl,QK,Qv,QE,LY,t5⟩
 .intro _ _ _ _
  trivial
 .rintro v rest τ A' ⟨ms,S,U,V,o,p,e,N,W,rfl,hN,hD,hM,bA,tA⟩ Nx Qk
  obtain⟨rfl,rfl,hlt⟩:=Iz e;refine⟨rfl,ns,t,u.length,l.map D.str,_,rfl,ω,hN,by simpa using Hw,tA,ω,λx A6 QU b6 t6=>?_⟩;obtain⟨a,ha,rfl⟩:=aM.mp QU;refine⟨rfl,ns,t,u.length,l.map D.str,_,rfl,ω,b6 _ _ ω hN,by simpa using Hw,t6,ω,λx A7 QV b7 t7=>?_⟩;obtain⟨b,hb,rfl⟩:=aM.mp QV;have J:=b6.trans b7;have Ge:=J _ _ ω hD;have va:=Cd hW (n:=a) (by rw[I];exact ha);have vb:=Cd hW (n:=b) (by rw[I];exact hb);refine fm Ge rfl (nS rs b (by rw[I];exact hb)) ?_;refine fm Ge rfl (nS rs a (by rw[I];exact ha)) ?_;refine cD (λc1=>cD (λc2=>⟨rfl,ns,t,9,_,rfl,t7,ω,δ,λi A8 i0 i1 b8 t8=>?g1⟩) (λc2=>?g2)) (λc1=>?g3);case' g1=>
   have X:1<=1+i:=ω
   have Y:=J.trans b8;have t9:Tw t (n+103+3*(ms.length+1)) A8:=t8.mono ω;generalize G:A8=A9 at*
   clear G
  case' g2=>
   have X:1<=val rs b:=vb.1;have Y:=J;have t9:Tw t (n+103+3*(ms.length+1)) A7:=t7.mono ω;generalize G:A7=A9 at*
   clear G
  case' g3=>
   have X:1<=val rs b:=vb.1;have Y:=J;have t9:Tw t (n+103+3*(ms.length+1)) A7:=t7.mono ω;generalize G:A7=A9 at*
   clear G
  all_goals
   have hr1:=va.1;have Qj:=Y _ _ (show u.length≠t by omega) hN;have Qf:=Y _ _ (show g.length≠t by omega) hD;have r:=Y _ _ (show g.length+1≠t by omega) hM;have LZ:=bA.trans Y;have sz:(ms.map enc).length<sizeLine:=by rw[aK];omega
   have done:∀(m:M) (bx:bO) (S U V o p:Option D),One m->bx=[some (.fl ns),some (.ref t),some (.int way),some (.int (1+((L:Nat):Int))),some (.ref u.length),some (.ref g.length),some (.ref (g.length+1)),S,U,V,o,p]->Nx bx (A9.set (g.length+1) (.lst (ms.map enc++[enc m]))):=λm bx S U V o p hm r_=>by
    refine Qk _ _ ⟨ms++[m],S,U,V,o,p,θ,by simp;omega,λy hy=>?_,r_,?_,?_,?_,LZ.Xq ω,?_⟩
    .rcases bX.mp hy with h|h
     .exact W y h
     .rw[bI.mp h]
      exact hm
    .rw[eE ω]
     exact Qj
    .rw[eE ω]
     exact Qf
    .rw[dP]
     exact eF (cy r)
    .obtain⟨ys,y1,y2⟩:=t9
     refine⟨ys,?_,by simpa using y2⟩;rw[eE ω];exact y1
   refine cD (λc3=>?_) (λc3=>cD (λc4=>?_) (λc4=>?_))
   .exact⟨gx r,show 2<=sizeLine by omega,iP r sz (done (.wt a) _ _ _ _ _ _ (.inl ⟨a,sub a ha,rfl⟩) rfl)⟩
   .exact⟨gx r,show 2<=sizeLine by omega,iP r sz (done (.wt a) _ _ _ _ _ _ (.inl ⟨a,sub a ha,rfl⟩) rfl)⟩
   .refine⟨gx r,show 2<=sizeLine by omega,show 2<=sizeLine by omega,show 5<=sizeLine by omega,iP r sz (done (.bS _ (val rs a) (.wt a) (.wt b)) _ _ _ _ _ _ (.inr ⟨_,val rs a,a,b,rfl,⟨X,(G7 c4).1⟩,⟨hr1,(G7 c4).2⟩,sub a ha,sub b hb,c3⟩) rfl)⟩
 .rintro τ A' ⟨ms,S,U,V,o,p,e,N,W,rfl,hN,hD,hM,bA,tA⟩
  have e:=V7 e N;refine tQ hM ?_;exact q ms _ ω ω W ⟨bA,tA.mono ω⟩
end My
namespace DP
open L2 MA
abbrev fE:=Str×Str×Int×Int
noncomputable def Gz:M->Bool
 |.bS _ _ _ _=>true
 |.wt _=>false
noncomputable def KD:M->fE
 |.bS l r (.wt a) (.wt b)=>(a,b,r,l)
 |_=>("","",1,1)
noncomputable def fN(ms:List M):List fE:=(ms.filter Gz).map KD
noncomputable def qo(t:fE):D:=.tup [.str t.1,.str t.2.1,.int t.2.2.1,.int t.2.2.2]
structure LK(t:fE):Prop where
 a:t.1∈N6
 b:t.2.1∈N6
 ne:t.1≠t.2.1
 up:1<=t.2.2.1/\t.2.2.1<=9
 dn:1<=t.2.2.2/\t.2.2.2<=9
theorem KC{ms:List M}(h:∀m∈ms,One m):∀t∈fN ms,LK t:=λt e=>by
 obtain⟨m,c,rfl⟩:=aM.mp e;obtain⟨c,f⟩:=nh.mp c;rcases h m c with⟨n,_,rfl⟩|⟨l,r,a,b,rfl,g,d,i,j,k⟩
 .cases f
 .exact⟨i,j,k,d,g⟩
structure Cw(L:List fE)(w:Str->Rat):Prop where
 pos:∀n,0<w n
 eq:∀t∈L,w t.1*(t.2.2.2:Rat)=w t.2.1*(t.2.2.1:Rat)
abbrev fU:=List (Str×Int×Int)
noncomputable def dc(ks:fU):List Str:=ks.map (·.1)
noncomputable def fH(ks:fU):List (Key×D):=ks.map λx=>(Sum.inr x.1,.tup [.int x.2.1,.int x.2.2])
theorem RX(ks:fU):(fH ks).map (·.1)=(dc ks).map Sum.inr:=by simp[fH,dc]
theorem jR:∀{ks:fU} {n:Str} {p q:Int},(dc ks).Nodup->(n,p,q)∈ks->br (fH ks) (Sum.inr n)=some (.tup [.int p,.int q])
 |x::ks,n,p,q,a,h=>by
  show(if (Sum.inr x.1:Key)=Sum.inr n then some (D.tup [.int x.2.1,.int x.2.2]) else br (fH ks) (Sum.inr n))=_;obtain⟨h1,h2⟩:=iK.mp (show(x.1::dc ks).Nodup from a);rcases aY.mp h with e|h
  .rw[<-e,aA rfl]
  .rw[ao (λz=>h1 (by rw[Sum.inr.inj z];exact cX h)),jR h2 h]
theorem nY{ks:fU}{n:Str}(h:n∈dc ks):∃p q,(n,p,q)∈ks:=by
 obtain⟨⟨m,p,q⟩,a,rfl⟩:=aM.mp h;exact⟨p,q,a⟩
def TA(L:List fE)(a b:Str):Prop:=∃t∈L,(t.1=a/\t.2.1=b)\/(t.2.1=a/\t.1=b)
inductive RL(L:List fE):Str->Str->Prop
 |refl (a:Str):RL L a a
 |step {a b c:Str}:RL L a b->TA L b c->RL L a c
structure Kn(L:List fE)(s:Str)(ks:fU):Prop where
 nd:(dc ks).Nodup
 st:(s,1,1)∈ks
 sub:∀x∈ks,x.1∈N6
 bd:∀x∈ks,(1<=x.2.1/\x.2.1<=(9:Int) ^ ks.length)/\(1<=x.2.2/\x.2.2<=(9:Int) ^ ks.length)
 xH:∀x∈ks,RL L s x.1
theorem Kn.len{L:List fE}{s:Str}{ks:fU}(h:Kn L s ks):ks.length<=6:=by
 have:=jS (dc ks) N6 h.nd λx a=>by
  obtain⟨y,b,rfl⟩:=aM.mp a;exact h.sub y b
 simpa[dc,N6] using this
theorem p9{k:Nat}(h:k<=6):(9:Int) ^ k<=531441:=by
 have:(9:Nat) ^ k<=9 ^ 6:=fj δ h;have e:((9:Int)) ^ k=((9 ^ k:Nat):Int):=by rw[qA];rfl
 rw[e];have:(9:Nat) ^ 6=531441:=δ
 omega
theorem Kn.small{L:List fE}{s:Str}{ks:fU}(h:Kn L s ks){x:Str×Int×Int}(a:x∈ks):(1<=x.2.1/\x.2.1<=531441)/\(1<=x.2.2/\x.2.2<=531441):=by
 have:=h.bd x a;have:=p9 h.len;omega
theorem Kn.start{L:List fE}{s:Str}(b:s∈N6):Kn L s [(s,1,1)]:=by
 refine⟨by simp[dc],θ,λx a=>?_,λx a=>?_,λx a=>?_⟩;all_goals
  have e:x=(s,1,1):=by simpa using a
  subst e
 .exact b
 .exact⟨⟨show(1:Int)<=1 by decide,show(1:Int)<=9 ^ 1 by decide⟩,show(1:Int)<=1 by decide,show(1:Int)<=9 ^ 1 by decide⟩
 .exact .refl _
theorem Kn.add{L:List fE}{s:Str}{ks:fU}(h:Kn L s ks){n m:Str}{p q u d:Int}(f:(m,p,q)∈ks)(g:n∉dc ks)(j:n∈N6)(i:1<=u/\u<=9)(hd:1<=d/\d<=9)(e:TA L m n):Kn L s (ks++[(n,p*d,q*u)]):=by
 have c:=h.bd _ f;have hz:(0:Int)<=9 ^ ks.length:=pow_nonneg δ;have mono:∀x:Int,x<=9 ^ ks.length->x<=(9:Int) ^ (ks.length+1):=λx hx=>by
  rw[jB];omega
 have mul:∀x y:Int,1<=x->x<=9 ^ ks.length->1<=y->y<=9->1<=x*y/\x*y<=(9:Int) ^ (ks.length+1):=λx y h1 h2 k l=>by
  rw[jB];refine⟨?_,dQ h2 l ω hz⟩;have:=dQ (a:=1) (b:=1) h1 k δ ω;omega
 refine⟨?_,oK _ h.st,λx hx=>?_,λx hx=>?_,λx hx=>?_⟩
 .unfold dc at g ⊢
  rw[dP,oM];refine⟨h.nd,θ,λa o b c=>?_⟩;have:b=n:=by simpa using c
  rw[this];exact λz=>g (by rw[<-z];exact o)
 .rcases bX.mp hx with hx|hx
  .exact h.sub x hx
  .rw[bI.mp hx]
   exact j
 .rw[cM]
  rcases bX.mp hx with hx|hx
  .have:=h.bd x hx
   exact⟨⟨this.1.1,mono _ this.1.2⟩,this.2.1,mono _ this.2.2⟩
  .rw[bI.mp hx]
   exact⟨mul p d c.1.1 c.1.2 hd.1 hd.2,mul q u c.2.1 c.2.2 i.1 i.2⟩
 .rcases bX.mp hx with hx|hx
  .exact h.xH x hx
  .rw[bI.mp hx]
   exact .step (h.xH _ f) e
def l_(L:List fE)(ks:fU):Prop:=∀t∈L,(t.1∈dc ks↔t.2.1∈dc ks)
def qY(L:List fE)(ks:fU):Prop:=∀t∈L,∀p q p' q',(t.1,p,q)∈ks->(t.2.1,p',q')∈ks->p*q'*t.2.2.2=p'*q*t.2.2.1
theorem FE{α:Type}{p q:α->Bool}:∀{l:List α},(∀x∈l,p x=q x)->l.find? p=l.find? q
 |[],_=>rfl
 |x::l,h=>by
  rw[j9,j9,h x (aT ..),FE (l:=l) λy a=>h y (bq _ a)]
theorem cw_of{L:List fE}(h:∀t∈L,∃ks,Kn L t.1 ks/\l_ L ks/\qY L ks):∃w,Cw L w:=by
 classical
 let kf:fE->fU:=λt=>if a:t∈L then Classical.choose (h t a) else []
 have i:∀t∈L,Kn L t.1 (kf t)/\l_ L (kf t)/\qY L (kf t):=λt a=>by
  show Kn L t.1 (if a:t∈L then Classical.choose (h t a) else [])/\l_ L (if a:t∈L then Classical.choose (h t a) else [])/\qY L (if a:t∈L then Classical.choose (h t a) else [])
  rw[dif_pos a]
  exact Classical.choose_spec (h t a)
 let rep:Str->Option fE:=λn=>L.find? λt=>decide (n∈dc (kf t))
 let wt:fU->Str->Rat:=λks n=>match ks.find? (λx=>decide (x.1=n)) with
  |some x=>(x.2.1:Rat)/(x.2.2:Rat)
  |none=>1
 let w:Str->Rat:=λn=>match rep n with
  |some t=>wt (kf t) n
  |none=>1
 have b:∀(ks:fU) (n:Str) (p q:Int),(dc ks).Nodup->(n,p,q)∈ks->wt ks n=(p:Rat)/(q:Rat):=λks n p q A hx=>by
  have:ks.find? (λx=>decide (x.1=n))=some (n,p,q):=by
   induction ks with
   |nil=>cases hx
   |cons y ks B=>
    obtain⟨h1,h2⟩:=iK.mp (show(y.1::dc ks).Nodup from A)
    rw[j9]
    rcases aY.mp hx with e|hx
    .rw[<-e]
     simp
    .have l:¬y.1=n:=λz=>h1 (by rw[z];exact cX (f:=(·.1)) hx)
     rw[gu l]
     exact B h2 hx
  show(match ks.find? (λx=>decide (x.1=n)) with|some x=>(x.2.1:Rat)/(x.2.2:Rat)|none=>1)=_
  rw[this]
 have cpos:∀z:Int,1<=z->(0:Rat)<(z:Rat):=λz hz=>by
  have:((0:Int):Rat)<(z:Rat):=yE.mpr ω
  simpa using this
 have j:∀p q:Int,1<=p->1<=q->(0:Rat)<(p:Rat)/(q:Rat):=λp q C D=>by
  rw[lW]
  exact nv (cpos p C) (uv.mpr (cpos q D))
 refine⟨w,λn=> ?_,λt a=> ?_⟩
 .show 0<(match rep n with|some t=>wt (kf t) n|none=>1)
  cases e:rep n with
  |none=>exact(by decide:(0:Rat)<1)
  |some t=>
   have m:=ni e
   have k:n∈dc (kf t):=by have:=find?_some e;exact gD this
   obtain⟨k1,_,_⟩:=i t m
   obtain⟨p,q,c⟩:=nY k
   show 0<wt (kf t) n
   rw[b _ _ _ _ k1.nd c]
   have:=k1.small c
   exact j _ _ this.1.1 this.2.1
 .have E:rep t.1=rep t.2.1:=by
   show L.find? (λs=>decide (t.1∈dc (kf s)))=L.find? (λs=>decide (t.2.1∈dc (kf s)))
   refine FE λs F=> ?_
   have:=(i s F).2.1 t a
   rw[kQ,nC,nC]
   exact this
  show(match rep t.1 with|some s=>wt (kf s) t.1|none=>1)*_=(match rep t.2.1 with|some s=>wt (kf s) t.2.1|none=>1)*_
  rw[<-E]
  cases e:rep t.1 with
  |none=>
   have:=o4.mp e t a
   have h1:t.1∈dc (kf t):=cX (f:=(·.1)) (i t a).1.st
   exact absurd (eL h1) this
  |some s=>
   have o:=ni e
   have k:t.1∈dc (kf s):=by have:=find?_some e;exact gD this
   obtain⟨k1,k2,k3⟩:=i s o
   have r:=(k2 t a).mp k
   obtain⟨p,q,c⟩:=nY k
   obtain⟨v,u,d⟩:=nY r
   have g:=k3 t a p q v u c d
   show wt (kf s) t.1*_=wt (kf s) t.2.1*_
   rw[b _ _ _ _ k1.nd c,b _ _ _ _ k1.nd d]
   have G:=k1.small c
   have H:=k1.small d
   have I:=kM (cpos q G.2.1)
   have J:=kM (cpos u H.2.1)
   have g':(p:Rat)*(u:Rat)*(t.2.2.2:Rat)=(v:Rat)*(q:Rat)*(t.2.2.1:Rat):=by
    rw[<-j6,<-j6,<-j6,<-j6,g]
   grind
def zl:Ct:=λds A R _=>∃ms:List M,ds=[.tup (ms.map enc)]/\ms.length<=6/\(∀m∈ms,One m)/\∀A' q,Gr A A'->A'[q]?=some (.lst ((fN ms).map qo))->A.length<=q->R (.ref q) A'
def Df:Ct:=λds A R _=>∃(ms:List M) (s:Str),ds=[.tup (ms.map enc),.str s]/\ms.length<=6/\(∀m∈ms,One m)/\s∈N6/\∀ks A' q,Kn (fN ms) s ks->l_ (fN ms) ks->Gr A A'->A'[q]?=some (.dct (fH ks))->R (.ref q) A'
def C8:Ct:=λds A R _=>∃ms:List M,ds=[.tup (ms.map enc)]/\ms.length<=6/\(∀m∈ms,One m)/\∀b A',(b=true->∃w,Cw (fN ms) w)->Gr A A'->R (.bl b) A'
theorem RY{ks:fU}{n:Str}{p q:Int}(h:n∉dc ks):b5 (fH ks) (Sum.inr n) (.tup [.int p,.int q])=fH (ks++[(n,p,q)]):=by
 rw[Bj λx a z=>?_]
 .simp[fH]
 .obtain⟨y,b,rfl⟩:=aM.mp a
  exact h (by rw[<-Sum.inr.inj z];exact cX b)
theorem vO(ks:fU)(n:Str):(br (fH ks) (Sum.inr n)).isSome=decide (n∈dc ks):=sA (RX ks)
theorem zI{α:Type}{k:Option Nat}{fr:bO}{tt:eU}{te:aP}{d:Ar->Prop}{R:List D->Ar->Prop}(g:α->D)(p:α->Bool)(f:α->D):∀(xs:List α) (ys:List D) (A:Ar),(∀a,Gr A a->d a)->(∀x∈xs,∀a,Gr A a->∃vs,nc k (g x)=some vs/\(∀Q:Bool->Ar->Prop,(∀b,Gr a b->Q (p x) b)->tt (vs.map some++fr) a Q)/\(p x=true->∀b,Gr a b->∀Q:DK,(∀e,Gr b e->Q (f x) e)->te (vs.map some++fr) b Q))->ys.length+xs.length<=sizeLine->(∀a,Gr A a->R (ys++(xs.filter p).map f) a)->jO d k fr tt te R (xs.map g) ys A
 |[],ys,A,hc,_,_,h=>⟨hc A Gr.refl,by simpa using h A Gr.refl⟩
 |x::xs,ys,A,hc,i,n,h=>by
  obtain⟨vs,o,q,r⟩:=i x (aT ..) A Gr.refl;refine⟨hc A Gr.refl,?_⟩;rw[o];simp at n;refine q _ λb c=>?_;cases j:p x with
  |true=>
   rw[yD j] at h;exact r j b c _ λe l=>⟨ω,zI g p f xs (ys++[f x]) e (λa z=>hc a ((c.trans l).trans z)) (λy m a z=>i y (bq _ m) a ((c.trans l).trans z)) (by simp;omega) λa z=>by simpa using h a ((c.trans l).trans z)⟩
  |false=>
   rw[yC (by simp[j])] at h;exact zI g p f xs ys b (λa z=>hc a (c.trans z)) (λy m a z=>i y (bq _ m) a (c.trans z)) ω λa z=>h a (c.trans z)
theorem mE{i j:Int}(h1:1<=j)(h2:j<=531441):qT i j:=.inr ⟨ω,ω⟩
end DP
namespace My
open L2 DP MA
theorem Pu(T:TopD K mg "_law_ties" I8 sL):aj P w K mg base 1 "_law_ties" sL (ak mg 1 zl):=by
 refine bF T WC λo p s d nd=>⟨_,(ay (aN (EV none (own:=["_law_part"]) (frees:=[]) (ix:=[]) rfl (cA (vr 0)) (λc=>(pG 0 (show(["_law_part"]:List Str).Nodup by decide+kernel))) (λc=>(d_ d (dX d (vr 0) ai) bE)) (λc=>(bW (aa (dX d (dX d (vr 0) ai) ai) (aa (dX d (dX d (vr 0) ai) ai) (aa (dX d (vr 0) ai) (aa (dX d (vr 0) ai) af))))))))),λds A R h t=>?_⟩;obtain⟨ms,rfl,u,g,q⟩:=h;have hz:(1000:Nat)<=sizeLine:=δ
 refine zI enc Gz (λm=>qo (KD m)) ms [] A (λ_ _=>trivial) (λm i j f=>?_) (by simp;omega) (λj f=>?_)
 .refine⟨[enc m],rfl,λQ e=>?_,λk v x Q e=>?_⟩
  .rcases g m i with⟨n,_,rfl⟩|⟨l,r,a,b,rfl,_⟩
   .exact e _ Gr.refl
   .exact e _ Gr.refl
  .rcases g m i with⟨n,_,rfl⟩|⟨l,r,a,b,rfl,_⟩
   .cases k
   .exact⟨show 4<=sizeLine by omega,e _ Gr.refl⟩
 .rw[fC]
  refine q _ _ (f.trans Gr.push) ?_ f.len;rw[aE];unfold fN;rw[bK];rfl
theorem OS(T:TopD K mg "_law_known" IT wD)(l:aj P w K mg base 1 "_law_ties" sL (ak mg 1 zl)):aj P w K mg base 2 "_law_known" wD (ak mg 2 Df):=by
 refine bF T Wu λhr hR hx s nd=>⟨_,(av (dS 2 nd (EW (vr 1) (bW (aa ai (aa ai af)))))
  (av (dS 3 nd ic)
  (av (zX dM (e_ (vr 3)) (av (dS 3 nd ic)
  (ay (eH dM rfl (cA (dL l hr hx (aa (vr 0) af))) (ku rfl (dB (dG 4 nd) (dB (dG 5 nd) (dB (dG 6 nd) (dB (dG 7 nd) kB))))) (av (bJ (PW.pt (pN (xT s (vr 4) (vr 2)) (rV (ql s (vr 5) (vr 2))))) (av (vq s (vr 2) (vr 5) (bW (aa (eZ (dX s (dX s (vr 2) (vr 4)) ai) (vr 7)) (aa (eZ (dX s (dX s (vr 2) (vr 4)) ai) (vr 6)) af))) rfl)
  (ay (dS 3 nd ic))) bM)
  (ay (bJ (PW.pt (pN (xT s (vr 5) (vr 2)) (rV (ql s (vr 4) (vr 2))))) (av (vq s (vr 2) (vr 4) (bW (aa (eZ (dX s (dX s (vr 2) (vr 5)) ai) (vr 6)) (aa (eZ (dX s (dX s (vr 2) (vr 5)) ai) (vr 7)) af))) rfl)
  (ay (dS 3 nd ic))) bM)))))))
  (ay (aN (vr 2)))))),λds A R h hl=>?_⟩
 obtain⟨ms,s0,rfl,X,hO,hs,q⟩:=h;have hz:(1000:Nat)<=sizeLine:=δ
 have tok:=KC hO;generalize hL:fN ms=L at*
 refine⟨show 2<=sizeLine by omega,?_⟩;refine⟨λk τ A'=>∃(ks:fU) (c:Bool) (B C E F:Option D),k=14 - 2*ks.length+c.toNat/\τ=[some (.tup (ms.map enc)),some (.str s0),some (.ref A.length),some (.bl c),B,C,E,F]/\Kn L s0 ks/\A'[A.length]?=some (.dct (fH ks))/\Gr A A'/\(c=false->l_ L ks),⟨_,[(s0,1,1)],true,none,none,none,none,rfl,rfl,Kn.start hs,aE,Gr.push,λh=>by cases h⟩,?_⟩;rintro k τ A1 ⟨ks,c,B,C,E,F,rfl,rfl,Y,hd,g1,hc⟩;cases c with
 |false=>exact q ks A1 _ Y (hc rfl) g1 hd
 |true=>
  have l6:=Y.len;refine⟨λτ A'=>∃(f:fU) (c:Bool) (B C E F:Option D),τ=[some (.tup (ms.map enc)),some (.str s0),some (.ref A.length),some (.bl c),B,C,E,F]/\Kn L s0 f/\A'[A.length]?=some (.dct (fH f))/\Gr A A'/\(c=false->f=ks/\l_ L f)/\(c=true->ks.length<f.length),?_,?_⟩
  .rintro bx A' ⟨f,c,B,C,E,F,h1,h2,Z,h4,V,X⟩
   refine⟨_,?_,f,c,B,C,E,F,rfl,h1,h2,Z,h4,λh=>(V h).2⟩;have:=h2.len;cases c with
   |true=>
    have:=X rfl;show 14 - 2*f.length+1<14 - 2*ks.length+1;omega
   |false=>
    rw[(V rfl).1];show 14 - 2*ks.length+0<14 - 2*ks.length+1;omega
  refine⟨rfl,ms,rfl,X,hO,λA2 q2 g2 h2 l2=>?_⟩;rw[hL] at h2;refine d7 h2 ?_;have hd2:=g2.get hd;have nq:A.length≠q2:=λz=>by rw[<-z,hd2] at h2;cases h2
  refine eG (λrest τ A'=>∃(dn i:List fE) (f:fU) (c:Bool) (B C E F:Option D),rest=i.map qo/\dn++i=L/\τ=[some (.tup (ms.map enc)),some (.str s0),some (.ref A.length),some (.bl c),B,C,E,F]/\Kn L s0 f/\A'[A.length]?=some (.dct (fH f))/\A'[q2]?=some (.lst (L.map qo))/\Gr A A'/\ks.length<=f.length/\(c=false->f=ks/\l_ dn f)/\(c=true->ks.length<f.length)) ?_ ?_ ?_ _ _ _ ⟨[],L,ks,false,B,C,E,F,rfl,rfl,rfl,Y,hd2,h2,g1.trans g2,aF _,λ_=>⟨rfl,λt N=>by cases N⟩,λh=>by cases h⟩
  .rintro rest τ A' ⟨_,_,_,_,_,_,_,_,_,_,_,_,_,h,_⟩
   exact h
  .rintro v rest τ O ⟨dn,i,f,c,y4,y5,y6,y7,e,r,rfl,j,g,H,W,hle,G,I⟩ Nx hN
   cases i with
   |nil=>cases e
   |cons t i=>
   cases e;have N:t∈L:=by rw[<-r];simp
   have y:=tok t N;have M:=λx=>vO f x;have ZW:=j.len;have Q:(fH f).length<sizeLine:=by
    have:(fH f).length=f.length:=by simp[fH]
    omega
   have new:∀(n m:Str) (p q u d:Int) (bx:bO),(m,p,q)∈f->n∉dc f->n∈N6->(1<=u/\u<=9)->(1<=d/\d<=9)->TA L m n->bx=[some (.tup (ms.map enc)),some (.str s0),some (.ref A.length),some (.bl true),some (.str t.1),some (.str t.2.1),some (.int t.2.2.1),some (.int t.2.2.2)]->Kn L s0 (f++[(n,p*d,q*u)])/\(O.set A.length (.dct (b5 (fH f) (Sum.inr n) (.tup [.int (p*d),.int (q*u)]))))[A.length]?=some (.dct (fH (f++[(n,p*d,q*u)])))/\Nx bx (O.set A.length (.dct (b5 (fH f) (Sum.inr n) (.tup [.int (p*d),.int (q*u)])))):=λn m p q u d bx h1 h2 Z h4 V h7 J=>by
    have k1:=j.add h1 h2 Z h4 V h7;have k2:(O.set A.length (.dct (b5 (fH f) (Sum.inr n) (.tup [.int (p*d),.int (q*u)]))))[A.length]?=some (.dct (fH (f++[(n,p*d,q*u)]))):=by
     rw[RY h2];exact eF (cy g)
    refine⟨k1,k2,hN _ _ ⟨dn++[t],i,_,true,_,_,_,_,rfl,by simpa using r,J,k1,k2,?_,W.set (aF _),(by simp;omega),(λh=>by cases h),(λ_=>by simp;omega)⟩⟩;rw[eE nq];exact H
   have keep:(t.1∈dc f↔t.2.1∈dc f)->∀bx,bx=[some (.tup (ms.map enc)),some (.str s0),some (.ref A.length),some (.bl c),some (.str t.1),some (.str t.2.1),some (.int t.2.2.1),some (.int t.2.2.2)]->Nx bx O:=λS bx J=>
    hN _ _ ⟨dn++[t],i,f,c,_,_,_,_,rfl,by simpa using r,J,j,g,H,W,hle,λh=>⟨(G h).1,λt' ht'=>by
     rcases bX.mp ht' with h'|h'
     .exact(G h).2 t' h'
     .rw[bI.mp h']
      exact S⟩,I⟩
   refine⟨rfl,iG g rfl ?_⟩;rw[ao bU,M];refine cD (λa=>?_) (λa=>?_)
   .refine iG g rfl ?_
    rw[aA rfl,M];refine cN (λb=>?_) (λb=>?_)
    .obtain⟨p,U,o⟩:=nY a
     have sm:=j.small o;obtain⟨k1,k2,k3⟩:=new t.2.1 t.1 p U t.2.2.1 t.2.2.2 _ o b y.b y.up y.dn ⟨t,N,.inl ⟨rfl,rfl⟩⟩ rfl;refine fm g rfl (jR j.nd o) ⟨mE y.dn.1 (by have:=y.dn.2;omega),?_⟩;refine fm g rfl (jR j.nd o) ⟨mE y.up.1 (by have:=y.up.2;omega),show 2<=sizeLine by omega,?_⟩;refine xG g rfl Q ?_;refine iG k2 rfl ?_;rw[ao bU,vO];have m1:t.2.1∈dc (f++[(t.2.1,p*t.2.2.2,U*t.2.2.1)]):=by simp[dc]
     have m2:t.1∈dc (f++[(t.2.1,p*t.2.2.2,U*t.2.2.1)]):=by
      unfold dc at a ⊢;rw[dP];exact oK _ a
     refine cD (λ_=>?_) (λz=>absurd m1 z);refine iG k2 rfl ?_;rw[aA rfl,vO];exact cN (λz=>absurd m2 z) (λ_=>k3)
    .refine iG g rfl ?_
     rw[ao bU,M];refine cD (λ_=>?_) (λz=>absurd b z);refine iG g rfl ?_;rw[aA rfl,M];exact cN (λz=>absurd a z) (λ_=>keep ⟨λ_=>b,λ_=>a⟩ _ rfl)
   .refine iG g rfl ?_
    rw[ao bU,M];refine cD (λb=>?_) (λb=>?_)
    .refine iG g rfl ?_
     rw[aA rfl,M];refine cN (λ_=>?_) (λz=>absurd z a);obtain⟨p,U,o⟩:=nY b;have sm:=j.small o;obtain⟨k1,k2,k3⟩:=new t.1 t.2.1 p U t.2.2.2 t.2.2.1 _ o a y.a y.dn y.up ⟨t,N,.inr ⟨rfl,rfl⟩⟩ rfl;refine fm g rfl (jR j.nd o) ⟨mE y.up.1 (by have:=y.up.2;omega),?_⟩;refine fm g rfl (jR j.nd o) ⟨mE y.dn.1 (by have:=y.dn.2;omega),show 2<=sizeLine by omega,?_⟩;exact xG g rfl Q k3
    .exact keep ⟨λz=>absurd z a,λz=>absurd z b⟩ _ rfl
  .rintro τ O ⟨dn,i,f,c,y4,y5,y6,y7,e,r,rfl,j,g,H,W,hle,G,I⟩
   cases i with
   |cons _ _=>cases e
   |nil=>
    have r:dn=L:=by simpa using r
    subst r;exact⟨f,c,y4,y5,y6,y7,rfl,j,g,W,G,I⟩
theorem OF(T:TopD K mg "_law_free" IP wA)(k:aj P w K mg base 1 "_law_ties" sL (ak mg 1 zl))(m:aj P w K mg base 2 "_law_known" wD (ak mg 2 Df)):aj P w K mg base 3 "_law_free" wA (ak mg 1 C8):=by
 refine bF T Ws λQ hR S F nd=>⟨_,(av (eH dM rfl (cA (dL k Q S (aa (vr 0) af))) (ku rfl (dB (dG 1 nd) (dB (dG 2 nd) (dB (dG 3 nd) (dB (dG 4 nd) kB))))) (av (dS 5 nd (dL m Q S (aa (vr 0) (aa (vr 1) af))))
  (ay (eH dM rfl (cA (dL k Q S (aa (vr 0) af))) (ku rfl (dB (dG 6 nd) (dB (dG 7 nd) (dB (dG 8 nd) (dB (dG 9 nd) kB))))) (ay (bJ (xT F (vr 6) (vr 5)) (av (vp (i:=10) (j:=11) rfl nd rfl rfl δ rfl rfl (aa (dX F (vr 5) (vr 6)) (aa (dX F (vr 5) (vr 7)) af)) rfl)
  (ay (bJ (jV F (eZ (eZ (dX F (vr 10) ai) (dX F (vr 11) ai)) (vr 9)) (eZ (eZ (dX F (vr 11) ai) (dX F (vr 10) ai)) (vr 8))) (ay (aN ic)) bM))) bM))))))
  (ay (aN ic))),λds A R h hl=>?_⟩
 obtain⟨ms,rfl,U,M,q⟩:=h;have hz:(1000:Nat)<=sizeLine:=δ
 have tok:=KC M;refine⟨rfl,ms,rfl,U,M,λA1 q1 g1 h1 l1=>?_⟩;refine d7 h1 ?_;refine eG (λrest τ A'=>∃(dn l:List fE) (V W X Y Z y z B C n o:Option D),rest=l.map qo/\dn++l=fN ms/\τ=[some (.tup (ms.map enc)),V,W,X,Y,Z,y,z,B,C,n,o]/\(∀t∈dn,∃ks,Kn (fN ms) t.1 ks/\l_ (fN ms) ks/\qY (fN ms) ks)/\Gr A1 A') ?_ ?_ ?_ _ _ _ ⟨[],fN ms,none,none,none,none,none,none,none,none,none,none,none,rfl,rfl,rfl,λ_ h=>(by cases h),Gr.refl⟩
 .rintro rest τ A' ⟨_,_,_,_,_,_,_,_,_,_,_,_,_,_,_,_,_,g⟩
  exact g.get h1
 .rintro v rest τ A2 ⟨dn,l,V,W,X,Y,Z,y,z,B,C,n,o,e,s,rfl,G,g2⟩ Nx hN
  cases l with
  |nil=>cases e
  |cons t0 l=>
  cases e;have ht0:t0∈fN ms:=by rw[<-s];simp
  refine⟨rfl,rfl,ms,t0.1,rfl,U,M,(tok t0 ht0).a,λks A3 q3 E hC g3 hd=>?_⟩;refine⟨rfl,ms,rfl,U,M,λA4 q4 g4 h4 l4=>?_⟩;have H:=g4.get hd;refine d7 h4 ?_;have L:=(g2.trans g3).trans g4;refine eG (λrest τ A'=>∃(u d:List fE) (y z B C n o:Option D),rest=d.map qo/\u++d=fN ms/\τ=[some (.tup (ms.map enc)),some (.str t0.1),some (.str t0.2.1),some (.int t0.2.2.1),some (.int t0.2.2.2),some (.ref q3),y,z,B,C,n,o]/\qY u ks/\A'=A4) ?_ ?_ ?_ _ _ _ ⟨[],fN ms,y,z,B,C,n,o,rfl,rfl,rfl,λ_ h=>(by cases h),rfl⟩
  .rintro rest τ A' ⟨_,_,_,_,_,_,_,_,_,_,_,_,rfl⟩
   exact h4
  .rintro v rest τ A' ⟨u,d,y6,y7,y8,y9,Zb,Zc,e,r,rfl,hG,rfl⟩ LJ Qi
   cases d with
   |nil=>cases e
   |cons t d=>
   cases e;have ht:t∈fN ms:=by rw[<-r];simp
   have N:=tok t ht;have next:∀(y z B C n o:Option D) (bx:bO),(∀p q p' O,(t.1,p,q)∈ks->(t.2.1,p',O)∈ks->p*O*t.2.2.2=p'*q*t.2.2.1)->bx=[some (.tup (ms.map enc)),some (.str t0.1),some (.str t0.2.1),some (.int t0.2.2.1),some (.int t0.2.2.2),some (.ref q3),y,z,B,C,n,o]->LJ bx A':=λy z B C n o bx hg r_=>
    Qi _ _ ⟨u++[t],d,y,z,B,C,n,o,rfl,by simpa using r,r_,λt' I=>by
     rcases bX.mp I with h'|h'
     .exact hG t' h'
     .rw[bI.mp h']
      exact hg,rfl⟩
   refine⟨rfl,iG H rfl ?_⟩;rw[ao bU,vO];refine cD (λa=>?_) (λa=>?_)
   .have b:=(hC t ht).mp a
    obtain⟨p,O,J⟩:=nY a;obtain⟨p2,q2,x⟩:=nY b;have s1:=E.small J;have s2:=E.small x;refine fm H rfl (jR E.nd J) ?_;refine fm H rfl (jR E.nd x) ?_;refine⟨mE s2.2.1 s2.2.2,mE N.dn.1 (by have:=N.dn.2;omega),mE s1.2.1 s1.2.2,mE N.up.1 (by have:=N.up.2;omega),?_⟩;refine cN (λc=>?_) (λc=>?_)
    .exact q false _ (λh=>by cases h) (g1.trans L)
    .refine next _ _ _ _ _ _ _ (λp' Z7 p2' Z8 k1 k2=>?_) rfl
     have e1:=jR E.nd k1;rw[jR E.nd J] at e1;have e2:=jR E.nd k2;rw[jR E.nd x] at e2;cases e1;cases e2;exact c
   .refine next _ _ _ _ _ _ _ (λp O p2 q2 k1 k2=>absurd (cX (f:=(·.1)) k1) a) rfl
  .rintro τ A' ⟨u,d,y6,y7,y8,y9,Zb,Zc,e,r,rfl,hG,rfl⟩
   cases d with
   |cons _ _=>cases e
   |nil=>
    have r:u=fN ms:=by simpa using r
    subst r;exact hN _ _ ⟨dn++[t0],l,_,_,_,_,_,_,_,_,_,_,_,rfl,by simpa using s,rfl,λt' I=>by
     rcases bX.mp I with h'|h'
     .exact G t' h'
     .rw[bI.mp h']
      exact⟨ks,E,hC,hG⟩,L⟩
 .rintro τ A2 ⟨dn,l,V,W,X,Y,Z,y,z,B,C,n,o,e,s,rfl,G,g2⟩
  cases l with
  |cons _ _=>cases e
  |nil=>
   have s:dn=fN ms:=by simpa using s
   subst s;exact q true _ (λ_=>cw_of G) (g1.trans g2)
end My
namespace DP
open L2 MA
theorem jU{m:M}(h:One m):Hl m:=by
 rcases h with⟨n,i,rfl⟩|⟨l,r,a,b,rfl,f,g,j,k,c⟩
 .refine⟨⟨trivial,λx d=>?_⟩,by decide+revert,rfl⟩
  rw[show x=n by simpa[aX.names] using d];exact kN n i
 .refine⟨⟨⟨f.1,f.2,g.1,g.2,trivial,trivial⟩,λx d=>?_⟩,show max 0 0+1<=5 by decide,?_⟩
  .have:x=a\/x=b:=by simpa[aX.names] using d
   rcases this with rfl|rfl
   .exact kN _ j
   .exact kN _ k
  .have e:bC (.bS l r (.wt a) (.wt b)) "" 1=[(""++("l":Str),a,1*((r:Rat)/((l+r:Int):Rat))),(""++("r":Str),b,1*((l:Rat)/((l+r:Int):Rat)))]:=rfl
   rw[e];simp[cP,c]
theorem J7{l r:Int}{a b:Str}(c:a≠b):shr (.bS l r (.wt a) (.wt b)) a=(r:Rat)/((l+r:Int):Rat)/\shr (.bS l r (.wt a) (.wt b)) b=(l:Rat)/((l+r:Int):Rat):=by
 have e:bC (.bS l r (.wt a) (.wt b)) "" 1=[(""++("l":Str),a,1*((r:Rat)/((l+r:Int):Rat))),(""++("r":Str),b,1*((l:Rat)/((l+r:Int):Rat)))]:=rfl;unfold shr;rw[e];constructor
 .simp[oX]
 .simp[c,oX]
theorem lD{ms:List M}(j:ms.length<=6)(h:∀m∈ms,One m):eV (ms.map aQ) N6:=by
 refine⟨by rw[aK];omega,λT d=>?_,δ,λT d n e=>?_⟩
 .obtain⟨m,c,rfl⟩:=aM.mp d
  exact(lQ (jU (h m c))).1
 .obtain⟨m,c,rfl⟩:=aM.mp d
  have:=((lQ (jU (h m c))).2.1 n).mp e;rcases h m c with⟨k,f,rfl⟩|⟨l,r,a,b,rfl,_,_,g,i,_⟩
  .rw[show n=k by simpa[aX.names] using this]
   exact f
  .have:n=a\/n=b:=by simpa[aX.names] using this
   rcases this with rfl|rfl
   .exact g
   .exact i
theorem PM{ms:List M}(s:ms.length<=6)(h:∀m∈ms,One m){w:Str->Rat}(j:Cw (fN ms) w):i9 (ms.map aQ)=none:=by
 refine V3 (w:=w) (lD s h) ?_;refine⟨j.pos,λT g x k y o=>?_⟩;obtain⟨m,i,rfl⟩:=aM.mp g;have c:=lQ (jU (h m i));have d:=(c.2.1 x).mp k;have f:=(c.2.1 y).mp o;rw[c.2.2 x k,c.2.2 y o];rcases h m i with⟨n,_,rfl⟩|⟨l,r,a,b,rfl,z,t,A,B,u⟩
 .rw[show x=n by simpa[aX.names] using d,show y=n by simpa[aX.names] using f]
 .have v:(a,b,r,l)∈fN ms:=aM.mpr ⟨_,nh.mpr ⟨i,rfl⟩,rfl⟩
  have e:w a*(l:Rat)=w b*(r:Rat):=j.eq _ v;have C:=iB (show(l+r:Int)≠0 by omega);have d:x=a\/x=b:=by simpa[aX.names] using d
  have f:y=a\/y=b:=by simpa[aX.names] using f
  obtain⟨p,q⟩:=J7 (l:=l) (r:=r) u;rcases d with rfl|rfl<;>rcases f with rfl|rfl
  .rfl
  .rw[p,q]
   grind
  .rw[p,q]
   grind
  .rfl
theorem pW{ms:List M}(h1:1<=ms.length)(a:ms.length<=6)(h:∀m∈ms,One m):iz (.tup (ms.map enc)) ms:=⟨rfl,h1,a,λm b=>jU (h m b)⟩
theorem Ao{ms a:List M}(h:iz (.tup (ms.map enc)) a):a=ms:=(Ft (D.tup.inj h.1)).symm
section
open Classical
abbrev RM(ms:List M)(a b:Str):Prop:=iA (ms.map aQ) a b
theorem DN{ms:List M}(h:∀m∈ms,One m){a b:Str}:lZ (ms.map aQ) a b↔∃m∈ms,a∈m.names/\b∈m.names:=by
 constructor
 .rintro ⟨T,d,h1,h2⟩
  obtain⟨m,c,rfl⟩:=aM.mp d;have k:=(lQ (jU (h m c))).2.1;exact⟨m,c,(k a).mp h1,(k b).mp h2⟩
 .rintro ⟨m,c,h1,h2⟩
  have k:=(lQ (jU (h m c))).2.1;exact⟨_,cX c,(k a).mpr h1,(k b).mpr h2⟩
end
section
open Classical
theorem Km(a:Str):¬strLt a a:=λh=>j5 _ (show a.cps.toList<a.cps.toList from h)
theorem qj{a b:Str}(h:strLt a b):¬strLt b a:=λk=>j5 _ (ur (show a.cps.toList<b.cps.toList from h) (show b.cps.toList<a.cps.toList from k))
theorem up_eq{α:Type}{r:α->α->Prop}(as:∀a b,r a b->¬r b a):∀{xs ys:List α},xs.Pairwise r->ys.Pairwise r->(∀x,x∈xs↔x∈ys)->xs=ys
 |[],[],_,_,_=>rfl
 |[],y::ys,_,_,h=>by have:=(h y).mpr (aT ..);cases this
 |x::xs,[],_,_,h=>by have:=(h x).mp (aT ..);cases this
 |x::xs,y::ys,g,i,h=>by
  obtain⟨d,j⟩:=gU.mp g;obtain⟨f,l⟩:=gU.mp i;have e:x=y:=by
   rcases aY.mp ((h x).mp (aT ..)) with e|m1
   .exact e
   rcases aY.mp ((h y).mpr (aT ..)) with e|m2
   .exact e.symm
   exact absurd (d y m2) (as _ _ (f x m1))
  subst e;have c:∀z,¬r z z:=λz k=>as _ _ k k;rw[up_eq as j l λz=>⟨λhz=>?_,λhz=>?_⟩]
  .rcases aY.mp ((h z).mp (bq _ hz)) with rfl|k
   .exact absurd (d _ hz) (c _)
   .exact k
  .rcases aY.mp ((h z).mpr (bq _ hz)) with rfl|k
   .exact absurd (f _ hz) (c _)
   .exact k
theorem tV{xs:List Str}(h:xs.Pairwise strLt):xs.Nodup:=Pairwise.imp (S:=λa b:Str=>a≠b) (λ {a b} c (z:a=b)=>Km b (by rw[z] at c;exact c)) h
theorem names6{m:M}(h:One m):∀n∈m.names,n∈N6:=λn c=>by
 rcases h with⟨k,d,rfl⟩|⟨l,r,a,b,rfl,_,_,e,f,_⟩
 .rw[show n=k by simpa[aX.names] using c]
  exact d
 .have:n=a\/n=b:=by simpa[aX.names] using c
  rcases this with rfl|rfl<;>assumption
end
theorem XJ{ms:List M}(h:∀m∈ms,One m){s:bz}(t:dY (ms.map aQ) s):∃p q:Int,(1<=p/\p<=9)/\(1<=q/\q<=9)/\cG (ms.map aQ) s=(p:Rat)/(q:Rat):=by
 obtain⟨T,h1,h2,f⟩:=t;have d:=cS h1;unfold cG;rw[lN h1,lN h1];obtain⟨m,g,rfl⟩:=aM.mp d;have c:=lQ (jU (h m g));have f2:=kM (m8 c.1 h2).pos;have a:=(c.2.1 _).mp h2;have b:=(c.2.1 _).mp f;have same:s.2.1=s.2.2->∃p q:Int,(1<=p/\p<=9)/\(1<=q/\q<=9)/\dz (aQ m) s.2.2/dz (aQ m) s.2.1=(p:Rat)/(q:Rat):=λe=>by
  refine⟨1,1,⟨δ,δ⟩,⟨δ,δ⟩,?_⟩;have:((1:Int):Rat)=1:=rfl;rw[<-e,this];grind
 by_cases e:s.2.1=s.2.2
 .exact same e
 rw[c.2.2 _ h2,c.2.2 _ f];rcases h m g with⟨n,_,rfl⟩|⟨l,r,x,y,rfl,i,j,_,_,u⟩
 .exact absurd ((show s.2.1=n by simpa[aX.names] using a).trans (show s.2.2=n by simpa[aX.names] using b).symm) e
 .obtain⟨k,o⟩:=J7 (l:=l) (r:=r) u
  have z:=iB (show(l+r:Int)≠0 by omega);have v:=iB (show(l:Int)≠0 by omega);have w:=iB (show(r:Int)≠0 by omega);have a:s.2.1=x\/s.2.1=y:=by simpa[aX.names] using a
  have b:s.2.2=x\/s.2.2=y:=by simpa[aX.names] using b
  rcases a with a|a<;>rcases b with b|b
  .exact absurd (a.trans b.symm) e
  .refine⟨l,r,i,j,?_⟩
   rw[a,b,k,o];grind
  .refine⟨r,l,j,i,?_⟩
   rw[a,b,k,o];grind
  .exact absurd (a.trans b.symm) e
theorem Ez{ms:List M}(h:∀m∈ms,One m):∀(ss:List bz) (x:Rat) (k:Nat),(∀s∈ss,dY (ms.map aQ) s)->0<x->(rf x).1<=(9:Int) ^ k->(rf x).2<=(9:Int) ^ k->0<ss.foldl (λx s=>x*cG (ms.map aQ) s) x/\(rf (ss.foldl (λx s=>x*cG (ms.map aQ) s) x)).1<=(9:Int) ^ (k+ss.length)/\(rf (ss.foldl (λx s=>x*cG (ms.map aQ) s) x)).2<=(9:Int) ^ (k+ss.length)
 |[],x,k,_,h1,h2,c=>⟨h1,h2,c⟩
 |s::ss,x,k,d,h1,h2,c=>by
  obtain⟨p,q,v,w,e⟩:=XJ h (d s (aT ..));have pos:0<cG (ms.map aQ) s:=by
   rw[e,lW];have i:(0:Rat)<(p:Rat):=by
    have:((0:Int):Rat)<(p:Rat):=yE.mpr ω;simpa using this
   have j:(0:Rat)<(q:Rat):=by
    have:((0:Int):Rat)<(q:Rat):=yE.mpr ω;simpa using this
   exact nv i (uv.mpr j)
  obtain⟨l,n⟩:=s_ (a:=p) (b:=q) ω ω;rw[<-e] at l n;have z:(0:Int)<=9 ^ k:=pow_nonneg δ;have o:=d8 h1;have xd:=cR x;have f:=d8 pos;have g:=cR (cG (ms.map aQ) s);obtain⟨r,t⟩:=s_ (a:=(rf x).1*(rf (cG (ms.map aQ) s)).1) (b:=(rf x).2*(rf (cG (ms.map aQ) s)).2) (f_ o f) (f_ xd g);rw[Iv] at r t;have A:(rf x).1*(rf (cG (ms.map aQ) s)).1<=9 ^ k*9:=dQ h2 ω (dR f) z;have B:(rf x).2*(rf (cG (ms.map aQ) s)).2<=9 ^ k*9:=dQ c ω (dR g) z;have:=Ez h ss (x*cG (ms.map aQ) s) (k+1) (λy u=>d y (bq _ u)) (nv h1 pos) (by rw[jB];omega) (by rw[jB];omega);rw[gX,gm,show k+(ss.length+1)=k+1+ss.length by omega];exact this
theorem Al{ms:List M}(h:∀m∈ms,One m)(d:ms.length<=6):∀P∈bG (ms.map aQ),∀n∈aC P,iN (dD (ms.map aQ) P n):=λP e n f=>by
 have hok:=lD d h;obtain⟨b,c,_,rfl⟩:=iV hok e;have a:=(gQ hok c).1;have pm:=kG f;have pl:=a.pl _ pm;have pn:=a.len;have i:N6.length=6:=rfl;obtain⟨k1,k2,k3⟩:=Ez h (cJ (aO (ms.map aQ) b) n) 1 0 (λs g=>xD _ pm s g) δ (by rw[Bu];decide) (by rw[Bu];decide);have j:(cJ (aO (ms.map aQ) b) n).length<=6:=by
  simp at pl;omega
 have:=p9 (k:=0+(cJ (aO (ms.map aQ) b) n).length) ω;exact⟨k1,by show(rf (dZ _ _)).1<=_;unfold dZ;omega,by show(rf (dZ _ _)).2<=_;unfold dZ;omega⟩
def jI(ms:List M)(n:Str):Prop:=∃m∈ms,n∈m.names
theorem P8{ms:List M}(h:∀m∈ms,One m)(g:ms.length<=6){n:Str}(c:jI ms n):∃b∈N6,aO (ms.map aQ) b∈bG (ms.map aQ)/\∀x,x∈aC (aO (ms.map aQ) b)↔RM ms n x:=by
 obtain⟨m,d,c⟩:=c;have hok:=lD g h;have:=vF hok (cX d) (((lQ (jU (h m d))).2.1 n).mpr c);obtain⟨P,e,i⟩:=gz.mp this;obtain⟨b,a,_,rfl⟩:=iV hok e;have f:=(qd hok a).mp i;exact⟨b,a,e,λx=>by rw[qd hok a];exact⟨λz=>f.symm.trans z,λz=>f.trans z⟩⟩
theorem Ak{ms:List M}(h:∀m∈ms,One m)(e:ms.length<=6){P:aS}(f:P∈bG (ms.map aQ)):∃a∈N6,jI ms a/\P=aO (ms.map aQ) a/\∀x,x∈aC P↔RM ms a x:=by
 have hok:=lD e h;obtain⟨a,b,⟨T,g,c⟩,rfl⟩:=iV hok f;obtain⟨m,d,rfl⟩:=aM.mp g;exact⟨a,b,⟨m,d,((lQ (jU (h m d))).2.1 a).mp c⟩,rfl,λx=>qd hok b⟩
theorem J6{ms:List M}(h:∀m∈ms,One m)(f:ms.length<=6)(nm:Str)(k:Int):zq (ms.map aQ) [(nm,k)]:=λP g i c e p d=>by
 by_cases a:nm∈aC P
 .have b:f7 [(nm,k)] P=[(nm,k)]:=by simp[f7,a]
  rw[b] at e d;cases e;rw[bI.mp d];have j:=kM (Al h f P g nm a).pos;unfold f9;show(k:Rat)/dD (ms.map aQ) P nm*dD (ms.map aQ) P nm=(k:Rat);grind
 .have b:f7 [(nm,k)] P=[]:=by simp[f7,a]
  rw[b] at e;cases e
section
open Classical
theorem XY(a b:Str)(h1:strLt a b):¬strLt b a:=λh2=>j5 _ (ur h1 h2)
theorem S0:N6.Pairwise strLt:=by
 unfold N6;simp only[gU,aY,fP,fQ,forall_eq_or_imp,forall_eq,Pairwise.nil,and_true,false_imp_iff,implies_true];unfold strLt;decide+kernel
noncomputable def cF(ms:List M)(n:Str):List Str:=N6.filter λx=>decide (RM ms n x)
theorem L_(ms:List M)(n:Str):(cF ms n).Pairwise strLt:=S0.sublist List.filter_sublist
theorem V6{ms:List M}(h:∀m∈ms,One m){a b:Str}(c:a∈N6)(r:RM ms a b):b∈N6:=by
 induction r with
 |refl=>exact c
 |step _ e _=>
  obtain⟨m,d,_,h2⟩:=(DN h).mp e;exact names6 (h m d) _ h2
theorem pV{ms:List M}(h:∀m∈ms,One m){n:Str}(a:jI ms n):n∈N6:=by
 obtain⟨m,b,c⟩:=a;exact names6 (h m b) _ c
theorem vW{ms:List M}(h:∀m∈ms,One m){n:Str}(a:n∈N6){x:Str}:x∈cF ms n↔RM ms n x:=by
 unfold cF;rw[nh,nC];exact⟨λz=>z.2,λz=>⟨V6 h a z,z⟩⟩
theorem L8{ms:List M}{a b:Str}(r:RM ms a b):cF ms a=cF ms b:=by
 unfold cF;refine List.filter_congr λx _=>?_;have:RM ms a x↔RM ms b x:=⟨λz=>r.symm.trans z,λz=>r.trans z⟩;simp only[this]
theorem Xp{ms:List M}(h:∀m∈ms,One m){n:Str}(a:n∈N6):n∈cF ms n:=(vW h a).mpr (.refl _)
theorem GA{ms:List M}(h:∀m∈ms,One m){n:Str}(a:n∈N6){zs:List Str}(b:zs.Pairwise strLt)(c:∀x,x∈zs↔RM ms n x):zs=cF ms n:=
 up_eq XY b (L_ ms n) λx=>by rw[c,vW h a]
theorem V5{ms:List M}(h:∀m∈ms,One m){a b:Str}(c:jI ms a)(r:RM ms a b):jI ms b:=by
 cases r with
 |refl=>exact c
 |step _ e=>
  obtain⟨m,d,_,h2⟩:=(DN h).mp e;exact⟨m,d,h2⟩
theorem rH{ms:List M}(h:∀m∈ms,One m)(i:ms.length<=6){es:List (List Str)}(b:kZ (ms.map aQ) es)(e:List Str):e∈es↔∃n,jI ms n/\e=cF ms n:=by
 constructor
 .intro a
  obtain⟨P,c,d⟩:=b.F5 e a;obtain⟨j,f,l,_,g⟩:=Ak h i c;exact⟨j,l,GA h f (b.qh e a).1 λx=>by rw[d,g]⟩
 .rintro ⟨n,k,rfl⟩
  obtain⟨j,_,c,g⟩:=P8 h i k;obtain⟨e,a,d⟩:=b.all _ c;have:e=cF ms n:=GA h (pV h k) (b.qh e a).1 λx=>by rw[d,g]
  rw[<-this];exact a
abbrev hdS(e:List Str):Str:=e.headD default
theorem Qw{e:List Str}(h:e≠[]):hdS e∈e:=by
 cases e with
 |nil=>exact absurd rfl h
 |cons x r=>exact aT
theorem Ei{ms:List M}(h:∀m∈ms,One m){n x:Str}(a:n∈N6)(b:x∈cF ms n):cF ms n=cF ms x:=L8 ((vW h a).mp b)
theorem PC{ms:List M}(h:∀m∈ms,One m)(f:ms.length<=6){es:List (List Str)}(c:kZ (ms.map aQ) es):es.flatten.Nodup/\∀x,x∈es.flatten↔jI ms x:=by
 constructor
 .unfold Nodup
  rw[List.pairwise_flatten];refine⟨λe i=>tV (c.qh e i).1,?_⟩;refine(Pairwise.and_mem.mp c.ord).imp ?_;rintro a b ⟨l,o,k⟩ x d y p z;subst z;obtain⟨n,g,rfl⟩:=(rH h f c a).mp l;obtain⟨n',j,rfl⟩:=(rH h f c b).mp o;have q:=Ei h (pV h g) d;have r:=Ei h (pV h j) p;rw[q,r] at k;exact Km _ k
 .intro x
  rw[List.mem_flatten];constructor
  .rintro ⟨e,i,d⟩
   obtain⟨n,g,rfl⟩:=(rH h f c e).mp i;exact V5 h g ((vW h (pV h g)).mp d)
  .intro d
   exact⟨_,(rH h f c _).mpr ⟨x,d,rfl⟩,Xp h (pV h d)⟩
end
def CZ:Ct:=λds A R _=>∃ms:List M,ds=[.tup (ms.map enc)]/\ms.length<=6/\(∀m∈ms,One m)/\∀(A':Ar) (q:Nat) (ys:List Str),Gr A A'->A'[q]?=some (.lst (ys.map D.str))->A.length<=q->ys.Pairwise strLt->(∀x,x∈ys↔jI ms x)->R (.ref q) A'
end DP
namespace My
open L2 DP MA
theorem Oj(T:TopD K mg "_law_all_names" IJ wo)(g:mg "sorted"=none)(i:mg "set"=none)(d:aj P w K mg base 9 "_law_leaves" sJ (ak mg 1 (zf 8))):aj P w K mg base 10 "_law_all_names" wo (ak mg 1 CZ):=by
 refine bF T Wn λy G j H nd=>⟨_,(av (dS 1 nd (cE af))
  (av (eH dM rfl (cA (vr 0)) (dG 2 nd) (ay (c7 (gM gV yk yr v7 u5 (vr 1) (aa (dL d y j (aa (vr 2) af)) af)))))
  (ay (aN (zR g i rfl (aa (vr 1) af)))))),λds A R h I=>?_⟩
 obtain⟨ms,rfl,J,t,q⟩:=h;have hz:(1000:Nat)<=sizeLine:=δ
 refine⟨bQ _,?_⟩;have nl:∀m∈ms,m.names.length<=2:=λm k=>by
  rcases t m k with⟨n,_,rfl⟩|⟨l,r,a,b,rfl,_⟩<;>simp[aX.names]
 have fl:∀ls:List M,(∀m∈ls,m∈ms)->(ls.flatMap aX.names).length<=2*ls.length:=λls=>by
  induction ls with
  |nil=>intro _;simp
  |cons m ls z=>
   intro u;have i1:=z λx j=>u x (bq _ j);have i2:=nl m (u m (aT ..));rw[qP,cM,gm];omega
 refine eG (λrest τ A'=>∃(dn c:List M) (p:Option D),rest=c.map enc/\dn++c=ms/\τ=[some (.tup (ms.map enc)),some (.ref A.length),p]/\A'[A.length]?=some (.lst ((dn.flatMap aX.names).map D.str))/\Gr A A') ?_ ?_ ?_ _ _ _ ⟨[],ms,none,rfl,rfl,rfl,aE,Gr.push⟩
 .intro _ _ _ _
  trivial
 .rintro v rest τ B ⟨dn,c,p,e,f,rfl,h1,o⟩ L C
  cases c with
  |nil=>cases e
  |cons m c=>
  cases e;have k:m∈ms:=by rw[<-f];simp
  have hd:=(jU (t m k)).deep;refine⟨gx h1,rfl,_,⟨m,rfl,ω,ω,rfl⟩,λN O s h2=>?_⟩;have E:=fl dn λx j=>by rw[<-f];simp[j]
  have Q:=nl m k;have S:dn.length<=6:=by
   have:=cj List.length f;simp at this;omega
  refine vB (s.get h1) h2 (by rw[aK,aK];omega) ?_;refine C _ _ ⟨dn++[m],c,_,rfl,by simpa using f,rfl,?_,(o.trans s).set (aF _)⟩;rw[qO,dP];have:[m].flatMap aX.names=m.names:=θ
  rw[this];exact eF (cy (s.get h1))
 .rintro τ B ⟨dn,c,p,e,f,rfl,h1,o⟩
  cases c with
  |cons _ _=>cases e
  |nil=>
  have f:dn=ms:=by simpa using f
  subst f;have E:=fl dn λx j=>j;refine BG (ss:=dn.flatMap aX.names) h1 (by have:=strs_map id (dn.flatMap aX.names);simpa using this) ω λys F k=>?_;refine q _ _ ys (o.trans Gr.push) aE o.len F λx=>?_;rw[k,gz];rfl
end My
namespace DP
open L2 MA
structure pq(ns:List Int):Prop where
 ne:ns≠[]
 len:ns.length<=6
 up:ns.Pairwise (·<·)
 no:∀n∈ns,1<=n/\n<=999999
noncomputable def fM(rs:List (Str×Int))(t:Int):List (Str×Int):=rs.map λr=>(r.1,r.2*t)
noncomputable def hd0(rs:List (Str×Int)):Int:=match rs with|r::_=>r.2|[]=>0
noncomputable def oq(rs:List (Str×Int))(ns:List Int)(n:Int):Bool:=decide (hd0 rs*(n/hd0 rs)=n)&&(fM rs (n/hd0 rs)).all λr=>decide (r.2∈ns)
noncomputable def lu(rs:List (Str×Int))(ns dn:List Int):List (List (Str×Int)):=(dn.filter (oq rs ns)).map λn=>fM rs (n/hd0 rs)
theorem Q9(k:Int):∀ns:List Int,lF (.int k) (ns.map D.int)=decide (k∈ns):=λns=>by
 rw[kQ,nC];unfold lF;rw[any_map,jD];constructor
 .rintro ⟨x,a,e⟩
  have:x=k:=gD e;rw[<-this];exact a
 .intro h
  exact⟨k,h,eL rfl⟩
theorem PB:∀ns:List Int,(ns.map D.int).all iU=true:=λns=>by simp[List.all_map,iU,Function.comp_def]
theorem HV:∀ns:List Int,f6 (ns.map D.int)=true
 |[]=>rfl
 |n::ns=>by simp[f6,gf,HV ns]
theorem GL:∀ns:List Int,canLayAll0 (bR (ns.map D.int))=true
 |[]=>rfl
 |n::ns=>by simp[bR,toQ,canLayAll0,canLay0,GL ns]
theorem E6:∀ns:List Int,depthAll (bR (ns.map D.int))=0
 |[]=>by simp[bR,depthAll]
 |n::ns=>by simp[bR,toQ,depthAll,PyData.depth,E6 ns]
theorem VG{ys ss:List Int}(h1:ys.Pairwise (·<·))(h2:ss.Pairwise (·<·))(a:∀x,x∈ys↔x∈ss):ys=ss:=by
 induction ys generalizing ss with
 |nil=>
  cases ss with
  |nil=>rfl
  |cons s ss=>exact absurd ((a s).mpr (aT ..)) θ
 |cons y ys c=>
  cases ss with
  |nil=>exact absurd ((a y).mp (aT ..)) θ
  |cons s ss=>
   have p1:=gU.mp h1;have p2:=gU.mp h2;have e:y=s:=by
    rcases aY.mp ((a y).mp (aT ..)) with e|e
    .exact e
    .rcases aY.mp ((a s).mpr (aT ..)) with e'|e'
     .exact e'.symm
     .have:=p1.1 s e'
      have:=p2.1 y e;omega
   subst e;rw[c p1.2 p2.2 λx=>?_];constructor
   .intro b
    rcases aY.mp ((a x).mp (bq _ b)) with e|e
    .have:=p1.1 x b
     omega
    .exact e
   .intro b
    rcases aY.mp ((a x).mpr (bq _ b)) with e|e
    .have:=p2.1 x b
     omega
    .exact e
theorem Ho{A:Ar}{p q:Nat}{xs:List D}{R:DK}(h:A[p]?=some (.lst xs))(h':A[q]?=some (.lst xs))(d:f6 xs=true)(e:canLayAll0 (bR xs)=true)(hd:depthAll (bR xs)<=60)(k:R (.bl false) A):gK true (.ref p) (.ref q) A R:=by
 unfold gK;have a:cV A (.ref p)=.list (bR xs):=by unfold cV;simp only[h]
 have b:cV A (.ref q)=.list (bR xs):=by unfold cV;simp only[h']
 have c:canLay0 (.list (bR xs))=true:=by simpa[canLay0] using e
 refine⟨?_,?_,?_,?_,?_,?_⟩
 .unfold i7;simp only[h];exact d
 .unfold i7;simp only[h'];exact d
 .rw[a];exact c
 .rw[b];exact c
 .rw[a,b];simp only[PyData.depth];omega
 .rw[a,b,PySem.SeqAt.eqv_refl _ c]
  exact k
theorem Sz{m:M}(g:m.arms)(d:m.deep<=5)(h:cP [] (bC m "" 1)=none){ys:List Str}(c:ys.Pairwise strLt)(a:∀x,x∈ys↔x∈m.names):∀k∈lw (ys.map (shr m)),1<=k/\k.natAbs.log2<9000:=by
 have e:∀x∈ys.map (shr m),iN x:=λx b=>by
  obtain⟨y,i,rfl⟩:=aM.mp b;exact xO g d h ((a y).mp i)
 have j:(ys.map (shr m)).length<=32:=by
  rw[aK];exact cC (pw_len ys m.names c λx b=>(a x).mp b) (iZ d)
 intro k f;have h1:=Sy (λx b=>(e x b).pos) k f;obtain⟨n,l,rfl⟩:=aM.mp f;obtain⟨o,n1⟩:=Y4 e j l;exact⟨h1,Sn ω (eB (j8 _ ω) n1)⟩
theorem V8{m:M}{ys:List Str}(b:∀x,x∈ys↔x∈m.names):ys.zip (lw (ys.map (shr m)))≠[]:=λz=>by
 have d:(lw (ys.map (shr m))).length=ys.length:=by rw[Sx,aK]
 have c:=cj List.length z;rw[List.length_zip,d] at c;have a:=aX.oh m;cases e:m.names with
 |nil=>rw[e] at a;simp at a
 |cons n r=>
  have:=(b n).mpr (by rw[e];simp);have h1:=qv this;rw[Nat.min_self] at c;rw[c] at h1;exact absurd h1 θ
def C6:Ct:=SV λds v=>∃ns,ds=[.tup (ns.map D.int)]/\pq ns/\v=.aG
def C4:Ct:=λds A R _=>∃m ns,ds=[enc m,.tup (ns.map D.int)]/\Wf m/\m.deep<=5/\pq ns/\
 (cP [] (bC m "" 1)=none->∀(A':Ar) (q:Nat) (ys:List Str),Gr A A'->A.length<=q->ys.Pairwise strLt->(∀x,x∈ys↔x∈m.names)->A'[q]? =some (.lst ((lu (ys.zip (lw (ys.map (shr m)))) ns ns).map fc))->R (.ref q) A')/\
 (cP [] (bC m "" 1)≠none->∀(A':Ar) (q:Nat),Gr A A'->A.length<=q->A'[q]? =some (.lst [])->R (.ref q) A')
end DP
namespace My
open L2 DP MA
theorem OB(T:TopD K mg "check_numbers" Jg wO)(f:mg "isinstance"=none)(l:mg "tuple"=none)(n:mg "len"=none)(o:mg "all"=none)(m:mg "list"=none)(j:mg "sorted"=none)(p:mg "set"=none){t1 B:Tok}(e:mg "MOST_NUMBERS"=some (.int 6 t1))(i:mg "HEAVIEST"=some (.int 999999 B)){d:Addr}(a:mg "NoNumber"=some (.ref d))(b:excIn K d jW "ValueError.__new__"=true)
  (g:aj P w K mg base 1 "is_number" qa (ak mg 3 uL)):aj P w K mg base 2 "check_numbers" wO (ak mg 1 C6):=by
 refine bF T WM λC s t E nd=>⟨_,(av (bJ (PW.pt (gO (fF (e_ (kr kit_tuple f l j7 (vr 0)))) (iE (fF (BS ai (dI iQ ia n jg (aa (vr 0) af)) (lA e)))))) (ay (jr s rfl a b (aa bE af))) bM)
  (av (bJ (fF (e_ (dI (uV rfl) u0 o boot_all (aa (eY none (own:=["number"]) (frees:=[]) (ix:=[]) rfl (cA (vr 0)) (λc=>(pG 0 (show(["number"]:List Str).Nodup by decide+kernel))) (λc=>(dL g C m5 (aa (vr 0) (aa ai (aa (lA i) af)))))) af)))) (ay (jr s rfl a b (aa bE af))) bM)
  (ay (bJ (jV E (ie Ek EN m boot_list (aa (vr 0) af)) (E0 j p rfl (aa (vr 0) af))) (ay (jr s rfl a b (aa bE af))) bM)))),λds A R h N=>?_⟩
 obtain⟨v,⟨ns,rfl,r,rfl⟩,q⟩:=h;have u:=r.len;have y:0<ns.length:=yb.mpr r.ne;have O:(100:Nat)<=sizeLine:=δ
 refine cD (λ_=>?_) (λc=>absurd (show(1:Int)<=((ns.map D.int).length:Nat) by rw[aK];omega) c);refine cN (λc=>absurd (show(((ns.map D.int).length:Nat):Int)<=6 by rw[aK];omega) c) (λ_=>?_);refine pJ (λ_=>.bl true) _ _ _ (λ_ _=>trivial) (λx t F z=>⟨[x],rfl,λQ G=>?_⟩) (by simp;omega) (λF z=>?_)
 .obtain⟨k,H,rfl⟩:=aM.mp t
  have:=r.no k H;refine⟨rfl,_,⟨k,1,999999,rfl,rfl⟩,λS I=>?_⟩;rw[show(decide ((1:Int)<=k)&&decide (k<=999999))=true by simp;omega];exact G _ I
 refine uN (bs:=(ns.map D.int).map λ_=>true) aE (nJ _ _) ?_;rw[show((ns.map D.int).map λ_=>true).all id=true by simp];refine Kh ω λys J L=>?_;have M:=VG J r.up L;subst M;refine Ho (getElem?_push aE) aE (HV _) (GL _) (by rw[E6];omega) ?_;exact q _ (((z.trans Gr.push).trans Gr.push).trans Gr.push)
theorem Ox(T:TopD K mg "choices" Jj wR)(t:mg "tuple"=none)(G:mg "all"=none)(i:aj P w K mg base 9 "check_mobile" mY (ak mg 1 pA))(d:aj P w K mg base 2 "check_numbers" wO (ak mg 1 C6))(H:aj P w K mg base 11 "bar" ou (ak mg 1 rj))(u:aj P w K mg base 12 "least" w9 (ak mg 1 Di)):aj P w K mg base 13 "choices" wR (ak mg 2 C4):=by
 refine bF T WQ λF hR B M nd=>⟨_,(av (c7 (dL i F B (aa (vr 0) af)))
  (av (c7 (dL d F B (aa (vr 1) af)))
  (av (bJ (qk (dL H F B (aa (vr 0) af)) jP) (ay (aN (cE af))) bM)
  (av (dS 2 nd (dL u F B (aa (vr 0) af)))
  (av (dS 3 nd (cE af))
  (av (eH dM rfl (cA (vr 1)) (dG 4 nd) (av (dS 5 nd (pK (vr 4) (dX M (dX M (vr 2) ai) ai)))
  (av (dS 6 nd (ie rJ rQ t j7 (aa (eY (some 2) (own:=["name","many"]) (frees:=["times"]) (ix:=[5]) rfl (cA (vr 2)) (λc=>(oA rfl (gR (pG 0 (show(["name","many","times"]:List Str).Nodup by decide+kernel)) (gR (pG 1 (show(["name","many","times"]:List Str).Nodup by decide+kernel)) oB)))) (λc=>(bW (aa (vr 0) (aa (eZ (vr 1) (vr 2)) af))))) af)))
  (ay (bJ (PW.pt (pN (d_ M (dX M (dX M (vr 6) ai) ai) (vr 4)) (rV (e_ (dI (uV rfl) u0 G boot_all (aa (eY (some 2) (own:=["name","many"]) (frees:=["numbers"]) (ix:=[1]) rfl (cA (vr 6)) (λc=>(oA rfl (gR (pG 0 (show(["name","many","numbers"]:List Str).Nodup by decide+kernel)) (gR (pG 1 (show(["name","many","numbers"]:List Str).Nodup by decide+kernel)) oB)))) (λc=>(NS M (vr 1) (vr 2)))) af)))))) (ay (c7 (gM gV jC jE iY jq (vr 3) (aa (vr 6) af)))) bM)))))
  (ay (aN (vr 3))))))))),λds A R h hl=>?_⟩
 obtain⟨m,ns,rfl,W,hd,Z,N,q2⟩:=h;refine⟨rfl,_,⟨m,rfl,W,hd,rfl⟩,λA1 g1=>?_⟩;refine⟨rfl,_,⟨ns,rfl,Z,rfl⟩,λA2 g2=>?_⟩;refine⟨rfl,m,rfl,W,hd,λA3 g3=>?_⟩;have I:=(g1.trans g2).trans g3;cases X:cP [] (bC m "" 1) with
 |some p=>
  exact⟨bQ _,q2 (by rw[X];intro z;cases z) _ _ (I.trans Gr.push) I.len aE⟩
 |none=>
  have N:=N X;refine⟨rfl,m,rfl,W,hd,λA4 g4=>?_⟩;rw[aA X];intro ys J s;have L:=Sz W.arms hd X J s;have hne:=V8 (m:=m) s;have O:(ys.zip (lw (ys.map (shr m)))).length<=32:=by
   have:=pw_len ys m.names J λx B=>(s x).mp B;have:=iZ hd;simp;omega
  have L:∀r∈ys.zip (lw (ys.map (shr m))),1<=r.2/\r.2.natAbs.log2<9000:=λr F=>L _ (of_mem_zip F).2;have N:=λA' q g l h=>N A' q ys g l J s h;generalize ys.zip (lw (ys.map (shr m)))=rs at*
  have S:=I.trans g4;have hnl:=Z.len;have hs:(100:Nat)<=sizeLine:=δ
  obtain⟨a,rt,rfl⟩:∃a rt,rs=a::rt:=by
   cases rs with
   |nil=>exact absurd rfl hne
   |cons a rt=>exact⟨a,rt,rfl⟩
  obtain⟨p0,p1⟩:=L a (aT ..);refine⟨bQ _,?_⟩;refine eG (λrest τ A'=>∃(dn b:List Int) (x y z:Option D),rest=b.map D.int/\dn++b=ns/\τ=[some (enc m),some (.tup (ns.map D.int)),some (fc (a::rt)),some (.ref A4.length),x,y,z]/\A'[A4.length]?=some (.lst ((lu (a::rt) ns dn).map fc))/\Gr A4 A') ?_ ?_ ?_ _ _ _ ⟨[],ns,none,none,none,rfl,rfl,rfl,aE,Gr.push⟩
  .intros;trivial
  .rintro v rest τ A' ⟨dn,b,x,y,z,e,o,rfl,Y,g⟩ Nx hN
   cases b with
   |nil=>cases e
   |cons n b=>
    cases e;have hnn:=Z.no n (by rw[<-o];simp);have hdl:dn.length<=6:=by
     have:(dn++n::b).length=ns.length:=by rw[o]
     simp at this;omega
    have hv:cY ((a::rt).map bH) 0=some (bH a):=mC (j:=0) rfl;conv=>whnf
    rw[hv];refine⟨⟨ω,p1⟩,?_⟩;have t0:0<=n/a.2:=Int.ediv_nonneg ω ω;have t1:n/a.2<=999999:=eB (j8 _ ω) hnn.2;have ZH:((a::rt).map bH).length<=32:=by rw[aK];exact O
    refine iS (f:=λx=>match x with|.tup [y,.int k]=>.tup [y,.int (k*(n/a.2))]|x=>x) trivial _ _ (λx B=>?_) (show 0+((a::rt).map bH).length<=sizeLine by omega) ?_
    .obtain⟨r,F,rfl⟩:=aM.mp B
     exact⟨[.str r.1,.int r.2],rfl,λQ hQ=>⟨.inr ⟨ω,ω⟩,show 2<=sizeLine by decide,hQ⟩⟩
    have e1:((a::rt).map bH).map (λx=>match x with|.tup [y,.int k]=>.tup [y,.int (k*(n/a.2))]|x=>x)=(fM (a::rt) (n/a.2)).map bH:=by
     unfold fM;rw[bK,bK];rfl
    rw[fC,e1];refine tQ aE ?_;have hv2:cY ((fM (a::rt) (n/a.2)).map bH) 0=some (bH (a.1,a.2*(n/a.2))):=mC (j:=0) rfl;have key:lu (a::rt) ns (dn++[n])=lu (a::rt) ns dn++(if oq (a::rt) ns n=true then [fM (a::rt) (n/a.2)] else []):=by
     unfold lu;rw[List.filter_append,dP];congr 1;by_cases c:oq (a::rt) ns n=true
     .rw[aA c,yD c];rfl
     .rw[ao c,yC c];rfl
    have gA:=g.trans (Gr.push (A:=A') (T:=[C.lst ((fM (a::rt) (n/a.2)).map bH)]));have U:=getElem?_push (T:=[C.lst ((fM (a::rt) (n/a.2)).map bH)]) Y;generalize Qc:A'++[C.lst ((fM (a::rt) (n/a.2)).map bH)]=A6 at*
    conv=>whnf
    rw[hv2];refine cD (λc1=>?_) (λc1=>?_)
    .have hl2:((fM (a::rt) (n/a.2)).map bH).length<=32:=by unfold fM;rw[aK,aK];exact O
     refine iS (f:=λx=>match x with|.tup [_,.int k]=>.bl (decide (k∈ns))|x=>x) trivial _ _ (λx B=>?_) (show 0+((fM (a::rt) (n/a.2)).map bH).length<=sizeLine by omega) ?_
     .obtain⟨r,F,rfl⟩:=aM.mp B
      refine⟨[.str r.1,.int r.2],rfl,λQ hQ=>⟨rfl,PB ns,?_⟩⟩;show Q (.bl (lF (.int r.2) (ns.map D.int))) _;rw[Q9];exact hQ
     have e2:((fM (a::rt) (n/a.2)).map bH).map (λx=>match x with|.tup [_,.int k]=>.bl (decide (k∈ns))|x=>x)=(fM (a::rt) (n/a.2)).map λr=>D.bl (decide (r.2∈ns)):=by
      rw[bK];rfl
     rw[fC,e2];refine uN (bs:=(fM (a::rt) (n/a.2)).map λr=>decide (r.2∈ns)) aE (nJ _ _) ?_;rw[List.all_map];have hok:oq (a::rt) ns n=(fM (a::rt) (n/a.2)).all λr=>decide (r.2∈ns):=by
      unfold oq;rw[eL (show hd0 (a::rt)*(n/hd0 (a::rt))=n from c1),Bool.true_and];rfl
     have gB:=gA.trans (Gr.push (A:=A6) (T:=[C.lst ((fM (a::rt) (n/a.2)).map λr=>D.bl (decide (r.2∈ns)))]));have E:=getElem?_push (T:=[C.lst ((fM (a::rt) (n/a.2)).map λr=>D.bl (decide (r.2∈ns)))]) U;generalize Zz:A6++[C.lst ((fM (a::rt) (n/a.2)).map λr=>D.bl (decide (r.2∈ns)))]=A7 at*
     cases V:(fM (a::rt) (n/a.2)).all (id∘λr=>decide (r.2∈ns)) with
     |true=>
      refine⟨gx E,iP E ?_ ?_⟩
      .have:(lu (a::rt) ns dn).length<=dn.length:=by unfold lu;rw[aK];exact Cu _ _
       rw[aK];omega
      .refine hN _ _ ⟨dn++[n],b,_,_,_,rfl,by simpa using o,rfl,?_,gB.set (aF _)⟩
       rw[key,aA (hok.trans V),dP];exact Ag E
     |false=>
      refine hN _ _ ⟨dn++[n],b,_,_,_,rfl,by simpa using o,rfl,?_,gB⟩;rw[key,ao (by rw[hok];exact λz=>absurd (z.symm.trans V) δ),lX];exact E
    .refine hN _ _ ⟨dn++[n],b,_,_,_,rfl,by simpa using o,rfl,?_,gA⟩
     rw[key,ao (by unfold oq;rw[gu (show ¬hd0 (a::rt)*(n/hd0 (a::rt))=n from c1)];simp),lX];exact U
  .rintro τ A' ⟨dn,b,x,y,z,e,o,rfl,Y,g⟩
   cases b with
   |cons n b=>cases e
   |nil=>
    have o:dn=ns:=by simpa using o
    rw[o] at Y;exact N _ _ (S.trans g) S.len Y
end My
namespace DP
open L2 MA
theorem Hi{d:List Rat}{x a b:Rat}(g:a∈d)(h:b∈d)(f:a≠b):mU d x=none:=by
 cases d with
 |nil=>cases g
 |cons c r=>
  unfold mU;simp only;rw[aA];refine jD.mpr ?_;by_cases e:a=c
  .exact⟨b,h,by simp;exact λz=>f (e.trans z.symm)⟩
  .exact⟨a,g,by simpa using e⟩
theorem len_sub{α:Type}[DecidableEq α]:∀(ys l:List α),ys.Nodup->(∀x∈ys,x∈l)->ys.length<=l.length
 |[],l,_,_=>bQ _
 |y::ys,l,h,a=>by
  obtain⟨h1,h2⟩:=iK.mp h;have:=len_sub ys (l.erase y) h2 λx b=>(t_ (λz=>h1 (by rw[<-z];exact b))).mpr (a x (bq _ b));have c:=a y (aT ..);have:=tY c;have:=qv c;simp only[gm];omega
theorem Tu{zs ks:List Int}(c:zs.Pairwise (·<·))(a:∀x,x∈zs↔x∈ks)(b:ks≠[])(d:ks.length<=6)(e:∀k∈ks,1<=k/\k<=999999):pq zs:=by
 refine⟨λz=>?_,?_,c,λn f=>e n ((a n).mp f)⟩
 .cases ks with
  |nil=>exact b rfl
  |cons k ks=>
   have:=(a k).mpr (aT ..);rw[z] at this;simp at this
 .exact cC (len_sub zs ks (c.imp λh=>ω) λx g=>(a x).mp g) d
def Dv:Ct:=λds A R _=>∃ns t n,ds=[.fl ns,.ref t]/\Tw t n A/\n+10<=1000000/\∀ks A',pq ks->(∀k∈ks,k<=30)->Dr t A A' n 10->R (.tup (ks.map D.int)) A'
end DP
namespace My
open L2 DP MA
theorem O4(T:TopD K mg "_law_numbers" IY wI)(g:mg "tuple"=none)(f:mg "sorted"=none)(m:mg "set"=none)(l:mg "range"=none)(a:aj P w K mg base 3 "_law_draw" kO (ak mg 3 mw))(d:aj P w K mg base 4 "_law_pick" mX (ak mg 3 nH)):aj P w K mg base 5 "_law_numbers" wI (ak mg 2 Dv):=by
 refine bF T Wz λr N o O nd=>⟨_,(av (dS 2 nd (dL d r o (aa (vr 0) (aa (vr 1) (aa (cE (aa ai (aa ai (aa ai af)))) af)))))
  (ay (aN (ie rJ rQ g j7 (aa (E0 f m rfl (aa (eY none (own:=["_law_k"]) (frees:=["_law_script","_law_town","_law_wide"]) (ix:=[0,1,2]) rfl (zT l (aa (c6 ai (dL a r o (aa (vr 0) (aa (vr 1) (aa ai af))))) af)) (λc=>(pG 0 (show(["_law_k","_law_script","_law_town","_law_wide"]:List Str).Nodup by decide+kernel))) (λc=>(c6 ai (dL a r m5 (aa (vr 1) (aa (vr 2) (aa (vr 3) af))))))) af)) af))))),λds A R h S=>?_⟩
 obtain⟨ns,t,n,rfl,B,U,q⟩:=h;obtain⟨E,s,_⟩:=id B;have V:=cy s;have hz:(1000:Nat)<=sizeLine:=δ
 refine⟨show 3<=sizeLine by decide,rfl,ns,t,_,[.int 4,.int 9,.int 30],n,rfl,ω,aE,θ,B.gr Gr.push,ω,λx F o G t1=>?_⟩;obtain⟨wide,rfl,m0,W⟩:∃k:Int,x=.int k/\1<=k/\k<=30:=by
  simp at o;rcases o with h|h|h<;>exact⟨_,h,ω,ω⟩
 have u:cH t A F:=Gr.push.but.trans G;refine⟨rfl,ns,t,6,n+1,rfl,t1,ω,ω,λi X Y i1 H I=>?_⟩;refine⟨ω,ω,?_⟩;refine pI (λrest ys A'=>∃ks:List Int,ys=ks.map D.int/\(∀k∈ks,1<=k/\k<=30)/\ks.length+rest.length=(1+i).toNat/\cH t A A'/\Tw t (n+2+ks.length) A') ?_ ?_ ?_ ?_ _ _ _ ⟨[],rfl,λ_ h=>(by cases h),by simp[fK],u.trans H,I⟩
 .intro _ _ _ _
  trivial
 .rintro rest ys A' ⟨ks,rfl,_,e,_⟩
  simp;omega
 .rintro x rest ys A' ⟨ks,rfl,p,e,b,t'⟩
  simp at e;refine⟨[x],rfl,λQ J=>?_⟩;refine⟨rfl,ns,t,wide,n+2+ks.length,rfl,t',ω,ω,λj Z j0 j1 L t3=>?_⟩;refine J _ _ ⟨ks++[1+j],θ,λk v=>?_,by simp;omega,b.trans L,by rw[cM];exact t3⟩;rcases bX.mp v with h|h
  .exact p k h
  .rw[bI.mp h]
   omega
 .rintro ys A' ⟨ks,rfl,p,e,b,t'⟩
  have e:ks.length=(1+i).toNat:=by simpa using e
  have y:ks≠[]:=λz=>by rw[z] at e;simp at e;omega
  refine XQ aE ω λzs M C=>?_;refine tQ aE (q zs _ (Tu M C y ω λk h=>⟨(p k h).1,by have:=(p k h).2;omega⟩) (λk h=>(p k ((C k).mp h)).2) ⟨b.trans (Gr.push.trans Gr.push).but,(t'.gr (Gr.push.trans Gr.push)).mono ω⟩)
end My
namespace DP
open L2 MA
theorem N_{A:Ar}{p q:Nat}{xs:List D}{R:DK}(h:A[p]?=some (.lst xs))(h':A[q]?=some (.lst xs))(d:f6 xs=true)(e:canLayAll0 (bR xs)=true)(hd:depthAll (bR xs)<=60)(k:R (.bl true) A):gK false (.ref p) (.ref q) A R:=by
 unfold gK;have a:cV A (.ref p)=.list (bR xs):=by unfold cV;simp only[h]
 have b:cV A (.ref q)=.list (bR xs):=by unfold cV;simp only[h']
 have c:canLay0 (.list (bR xs))=true:=by simpa[canLay0] using e
 refine⟨?_,?_,?_,?_,?_,?_⟩
 .unfold i7;simp only[h];exact d
 .unfold i7;simp only[h'];exact d
 .rw[a];exact c
 .rw[b];exact c
 .rw[a,b];simp only[PyData.depth];omega
 .rw[a,b,PySem.SeqAt.eqv_refl _ c]
  exact k
def Dk(k:Nat)(d:D):Prop:=gf d=true/\(toQ d).canLay0=true/\(toQ d).depth<=k
theorem vo{k:Nat}:∀{xs:List D},(∀d∈xs,Dk k d)->f6 xs=true/\canLayAll0 (bR xs)=true/\depthAll (bR xs)<=k
 |[],_=>⟨rfl,rfl,by simp[bR,depthAll]⟩
 |d::xs,h=>by
  obtain⟨a1,a2,a3⟩:=h d (aT ..);obtain⟨a,b,e⟩:=vo λx c=>h x (bq _ c);refine⟨by show(gf d&&f6 xs)=true;rw[a1,a];rfl,?_,?_⟩
  .simp[bR,canLayAll0,a2,b]
  .simp only[bR,depthAll]
   omega
theorem vn{k:Nat}{xs:List D}(h:∀d∈xs,Dk k d):Dk (k+1) (.tup xs):=by
 obtain⟨a,b,c⟩:=vo h;refine⟨a,?_,?_⟩
 .show canLay0 (.tuple (bR xs))=true
  simpa[canLay0] using b
 .show PyData.depth (.tuple (bR xs))<=k+1
  simp only[PyData.depth];omega
theorem mL{s:Str}(h:canLay0 (.str s)=true){k:Nat}:Dk k (.str s):=⟨rfl,h,by simp[toQ,PyData.depth]⟩
theorem vj{i:Int}{k:Nat}:Dk k (.int i):=⟨rfl,by simp[toQ,canLay0],by simp[toQ,PyData.depth]⟩
theorem vh{k:Nat}{a b:D}(c:Dk k a)(e:Dk k b):Dk (k+1) (.tup [a,b]):=vn λd hd=>by
 rcases aY.mp hd with rfl|hd
 .exact c
 .rw[bI.mp hd];exact e
theorem Dk.up{k j:Nat}{d:D}(h:Dk k d)(l:k<=j):Dk j d:=⟨h.1,h.2.1,cC h.2.2 l⟩
theorem AL:∀(m:M) (w:Str),Wy w->(∀n∈m.names,Nm n)->∀p∈jw m w,Wy p.1/\Nm p.2
 |.wt n,w,h,c,p,hp=>by
  have hp:p∈[(w,n)]:=hp;rw[bI.mp hp];exact⟨h,c n (by simp[aX.names])⟩
 |.bS l r a b,w,h,c,p,hp=>by
  have hp:p∈jw a (w++"l")++jw b (w++"r"):=hp;have c:∀n∈a.names++b.names,Nm n:=c;rcases bX.mp hp with hp|hp
  .exact AL a _ h.l (λn d=>c n (oK _ d)) p hp
  .exact AL b _ h.r (λn d=>c n (je _ d)) p hp
theorem BB:∀(m:M) (w:Str) (x:Rat),Wy w->(∀n∈m.names,Nm n)->∀p∈bC m w x,Wy p.1/\Nm p.2.1
 |.wt n,w,x,h,c,p,hp=>by
  have hp:p∈[(w,n,x)]:=hp;rw[bI.mp hp];exact⟨h,c n (by simp[aX.names])⟩
 |.bS l r a b,w,x,h,c,p,hp=>by
  have hp:p∈bC a (w++"l") _++bC b (w++"r") _:=hp;have c:∀n∈a.names++b.names,Nm n:=c;rcases bX.mp hp with hp|hp
  .exact BB a _ _ h.l (λn d=>c n (oK _ d)) p hp
  .exact BB b _ _ h.r (λn d=>c n (je _ d)) p hp
theorem IA{r:Str×Int}(h:Nm r.1):Dk 1 (bH r):=vh (mL h.ok) vj
theorem S4{l l':List Rat}(x:Rat)(h:∀z,z∈l↔z∈l'):mU l x=mU l' x:=by
 cases l with
 |nil=>
  cases l' with
  |nil=>rfl
  |cons b r'=>exact absurd ((h b).mpr (aT ..)) θ
 |cons a r=>
  cases l' with
  |nil=>exact absurd ((h a).mp (aT ..)) θ
  |cons b r'=>
   by_cases c:∀z∈a::r,z=a
   .have f:b=a:=c b ((h b).mpr (aT ..))
    subst f;have n1:¬((b::r).any λy=> !decide (y=b))=true:=λz=>by
     obtain⟨y,d,e⟩:=jD.mp z;rw[c y d] at e;simp at e
    have n2:¬((b::r').any λy=> !decide (y=b))=true:=λz=>by
     obtain⟨y,d,e⟩:=jD.mp z;rw[c y ((h y).mpr d)] at e;simp at e
    unfold mU;simp only;rw[ao n1,ao n2]
   .have:∃z∈a::r,z≠a:=Classical.byContradiction λk=>c λz hz=>Classical.byContradiction λe=>k ⟨z,hz,e⟩
    obtain⟨z,hz,ne⟩:=this;rw[Hi hz (aT ..) ne,Hi ((h z).mp hz) ((h a).mp (aT ..)) ne]
theorem TL{rs:List (Str×Int)}{s:Str->Rat}{ns a:List Str}(h:∀x,x∈ns↔x∈a)(y:Str):eO rs s ns y=eO rs s a y:=by
 unfold eO;rw[S4 (s y) (l:=(ns.filter λn=> !decide (n=y)).map (eK rs s)) (l':=(a.filter λn=> !decide (n=y)).map (eK rs s))];intro z;simp only[aM,nh,h]
theorem TH{rs:List (Str×Int)}{s:Str->Rat}{ns:List Str}{y:Str}{r:Str×Int}(h:eO rs s ns y=some r):r.1=y:=by
 unfold eO at h;split at h
 .split at h
  .cases h;rfl
  .cases h
 .cases h
theorem L3{Ts:List Tb}{es fs:List (List Str)}(h1:kZ Ts es)(h2:kZ Ts fs):es=fs:=by
 have half:∀{es fs:List (List Str)},kZ Ts es->kZ Ts fs->∀e,e∈es->e∈fs:=λ {es fs} h1 h2 e f=>by
  obtain⟨P,h,i⟩:=h1.F5 e f;obtain⟨g,c,d⟩:=h2.all P h;have:e=g:=up_eq (r:=strLt) (λ_ _=>qj) (h1.qh e f).1 (h2.qh g c).1 λx=>by rw[i,d]
  rw[this];exact c
 exact up_eq (r:=λa b:List Str=>strLt (a.headD default) (b.headD default)) (λ_ _=>qj) h1.ord h2.ord λe=>⟨half h1 h2 e,half h2 h1 e⟩
inductive jh(m:M)(ms:List M)(ks:List Int)(rs:List (Str×Int)):Int->List D->Prop
 |a0:jh m ms ks rs 0 ((jw m "").map kH)
 |a1:jh m ms ks rs 1 ((bC m "" 1).map oE)
 |a2:jh m ms ks rs 2 ((jb (val rs) m "").map kH++[.int 1])
 |a3 (ys:List Str):cP [] (bC m "" 1)=none->ys.Pairwise strLt->(∀x,x∈ys↔x∈m.names)->jh m ms ks rs 3 ((lu (ys.zip (lw (ys.map (shr m)))) ks ks).map fc++[.int 1])
 |rA:cP [] (bC m "" 1)≠none->jh m ms ks rs 3 ([]++[.int 1])
 |a4 (ns ys:List Str):cP [] (bC m "" 1)=none->(∀x,x∈ns↔x∈m.names)->ys.Pairwise strLt->(∀x,x∈ys↔x∈m.names)->jh m ms ks rs 4 ((ys.filterMap (eO rs (shr m) ns)).map bH++[.int 1])
 |rB:cP [] (bC m "" 1)≠none->jh m ms ks rs 4 ([]++[.int 1])
 |a5 (es:List (List Str)):kZ (ms.map aQ) es->jh m ms ks rs 5 (es.map λe=>D.tup (e.map D.str))
theorem LR{m:M}{ms:List M}{ks:List Int}{rs:List (Str×Int)}{i:Int}{xs ys:List D}(h:jh m ms ks rs i xs)(h':jh m ms ks rs i ys):xs=ys:=by
 cases h with
 |a0=>cases h';rfl
 |a1=>cases h';rfl
 |a2=>cases h';rfl
 |a3 zs d j k=>
  cases h' with
  |a3 e a b c=>rw[up_eq (r:=strLt) (λ_ _=>qj) j b λx=>(k x).trans (c x).symm]
  |rA a=>exact absurd d a
 |rA d=>
  cases h' with
  |a3 e a b c=>exact absurd a d
  |rA a=>rfl
 |a4 ns zs d n j k=>
  cases h' with
  |a4 f e a g b c=>
   rw[up_eq (r:=strLt) (λ_ _=>qj) j b λx=>(k x).trans (c x).symm,show eO rs (shr m) ns=eO rs (shr m) f from funext λy=>TL (λx=>(n x).trans (g x).symm) y]
  |rB a=>exact absurd d a
 |rB d=>
  cases h' with
  |a4 f e a g b c=>exact absurd a d
  |rB a=>rfl
 |a5 es o=>
  cases h' with
  |a5 fs l=>rw[L3 o l]
theorem tH{xs:List D}{k:Nat}(h:∀d∈xs,Dk k d):∀d∈xs++[D.int 1],Dk k d:=λd hd=>by
 rcases bX.mp hd with hd|hd
 .exact h d hd
 .rw[bI.mp hd];exact vj
theorem tK(xs:List D):xs++[D.int 1]≠[]:=θ
theorem uO{m:M}{ms:List M}{ks:List Int}{rs:List (Str×Int)}{i:Int}{xs:List D}(q:Wf m)(C:m.deep<=5)(H:pq ks)(h1:1<=ms.length)(E:ms.length<=6)(u:∀m∈ms,One m)(h:jh m ms ks rs i xs):xs≠[]/\xs.length<=100/\∀d∈xs,Dk 3 d:=by
 have ln:=iZ C;have L:=aX.oh m;cases h with
 |a0=>
  refine⟨λz=>?_,?_,λd hd=>?_⟩
  .have:=cj List.length z
   rw[aK,sG,oJ] at this;omega
  .rw[aK,sG];omega
  .obtain⟨p,c,rfl⟩:=aM.mp hd
   obtain⟨a,b⟩:=AL m "" Wy.nil q.nm p c;exact(vh (k:=0) (mL a.ok) (mL b.ok)).up δ
 |a1=>
  refine⟨λz=>?_,?_,λd hd=>?_⟩
  .have:=cj List.length z
   rw[aK,m7,oJ] at this;omega
  .rw[aK,m7];omega
  .obtain⟨p,c,rfl⟩:=aM.mp hd
   obtain⟨a,b⟩:=BB m "" 1 Wy.nil q.nm p c;refine(vn (k:=1) λd hd=>?_:Dk 2 (oE p)).up δ;rcases aY.mp hd with rfl|hd
   .exact mL a.ok
   rcases aY.mp hd with rfl|hd
   .exact mL b.ok
   rw[bI.mp hd];exact vh vj vj
 |a2=>
  have lt:=tP (val rs) m "";have N:2 ^ m.deep<=2 ^ 5:=fj δ C;refine⟨tK _,?_,tH λd hd=>?_⟩
  .rw[cM,aK]
   simp;omega
  .obtain⟨p,c,rfl⟩:=aM.mp hd
   obtain⟨a,b⟩:=BX (val rs) m "" Wy.nil p c;refine(vh (k:=0) (mL a.ok) (mL ?_)).up δ;rcases b with b|b<;>rw[b]
   .exact Sh
   .exact V2
 |a3 ys v c s=>
  refine⟨tK _,?_,tH λd hd=>?_⟩
  .rw[cM,aK]
   unfold lu;rw[aK];have:=Cu (oq (ys.zip (lw (ys.map (shr m)))) ks) ks;have:=H.len;simp;omega
  .obtain⟨l,I,rfl⟩:=aM.mp hd
   obtain⟨n,w,rfl⟩:=aM.mp I;refine(vn (k:=1) λd hd=>?_:Dk 2 (fc _)).up δ;obtain⟨r,A,rfl⟩:=aM.mp hd;obtain⟨r',B,rfl⟩:=aM.mp A;exact IA (q.nm _ ((s _).mp (of_mem_zip B).1))
 |rA v=>exact⟨tK _,θ,tH λd hd=>by cases hd⟩
 |a4 ns ys v w c s=>
  have O:ys.length<=m.names.length:=jS ys m.names (tV c) λx j=>(s x).mp j;refine⟨tK _,?_,tH λd hd=>?_⟩
  .rw[cM,aK]
   have:=List.length_filterMap_le (eO rs (shr m) ns) ys;simp;omega
  .obtain⟨r,A,rfl⟩:=aM.mp hd
   obtain⟨y,J,e⟩:=qx.mp A;have:=TH e;refine(IA ?_).up δ;rw[this];exact q.nm _ ((s y).mp J)
 |rB v=>exact⟨tK _,θ,tH λd hd=>by cases hd⟩
 |a5 es t=>
  have f:∀e∈es,∀x∈e,x∈N6:=λe g x j=>pV u (((PC u E t).2 x).mp (List.mem_flatten.mpr ⟨e,g,j⟩));refine⟨λz=>?_,?_,λd hd=>?_⟩
  .have z:es=[]:=List.map_eq_nil_iff.mp z
   cases ms with
   |nil=>simp at h1
   |cons m0 ms=>
    have o:=aX.oh m0;cases F:m0.names with
    |nil=>rw[F] at o;simp at o
    |cons G P=>
     have:=(rH u E t (cF (m0::ms) G)).mpr ⟨G,⟨m0,aT ..,by rw[F];exact aT ..⟩,rfl⟩;rw[z] at this;cases this
  .rw[aK]
   have K:(es.map hdS).Pairwise strLt:=jA.mpr t.ord;have:=jS (es.map hdS) N6 (tV K) λx j=>by
    obtain⟨e,g,rfl⟩:=aM.mp j;exact f e g _ (Qw (t.qh e g).2)
   rw[aK] at this;simp[N6] at this;omega
  .obtain⟨e,g,rfl⟩:=aM.mp hd
   refine(vn (k:=0) λd hd=>?_:Dk 1 (.tup (e.map D.str))).up δ;obtain⟨n,w,rfl⟩:=aM.mp hd;exact mL (kN n (f e g n w)).ok
theorem XG{A:Ar}{r:Nat}{lo hi:Option Int}{xs:List D}{R:DK}(h:A[r]?=some (.lst xs))(k:R (.ref A.length) (A++[.lst (cutD xs lo hi)])):oF r lo hi A R:=by
 unfold oF;rw[h];exact k
theorem MD(l:List D)(y:D):cutD (l++[y]) none (some (-1))=l:=by
 unfold cutD;have e:HT.bh (l++[y]).length (l++[y]).length (some (-1))=l.length:=by
  show(if (-1:Int)<0 then ((-1:Int)+((l++[y]).length:Int)).toNat else min (-1:Int).toNat (l++[y]).length)=_;rw[aA δ];simp;omega
 rw[e,HT.Wg,List.drop_zero,Nat.sub_zero,List.take_append_of_le_length θ,qD θ]
def Dj:Ct:=λds A R _=>∃m,ds=[enc m]/\Wf m/\m.deep<=5/\∀A' q,Gr A A'->A'[q]?=some (.lst ((jw m "").map kH))->R (.ref q) A'
def CY:Ct:=λds A R _=>∃(i:Int) (m:M) (ms:List M) (ks:List Int) (rs:List (Str×Int)),ds=[.int i,enc m,.tup (ms.map enc),.tup (ks.map D.int),fc rs]/\0<=i/\i<6/\Wf m/\m.deep<=5/\Bk rs m/\pq ks/\1<=ms.length/\ms.length<=6/\(∀m∈ms,One m)/\
 ∀A' q xs,Gr A A'->jh m ms ks rs i xs->A'[q]?=some (.lst xs)->R (.ref q) A'
end DP
namespace My
open L2 DP MA
theorem OY(T:TopD K mg "leaves" JB xh)(a:aj P w K mg base 9 "check_mobile" mY (ak mg 1 pA))(b:aj P w K mg base 9 "leaves_below" qb (ak mg 2 (uK 8))):aj P w K mg base 10 "leaves" xh (ak mg 1 Dj):=by
 refine bF T W7 λc j d k nd=>⟨_,(av (c7 (dL a c d (aa (vr 0) af)))
  (ay (aN (dL b c d (aa (vr 0) (aa bE af)))))),λds A R h l=>?_⟩
 obtain⟨m,rfl,e,f,q⟩:=h;refine⟨rfl,_,⟨m,rfl,e,f,rfl⟩,λn g=>?_⟩;exact⟨rfl,_,⟨m,"",rfl,ω,η,δ,rfl⟩,λo p i h2=>q _ _ (g.trans i) h2⟩
theorem Ol(T:TopD K mg "_law_ask" IK wu)(c:aj P w K mg base 10 "leaves" xh (ak mg 1 Dj))(d:aj P w K mg base 10 "shares" oz (ak mg 1 rm))(k:aj P w K mg base 18 "tips" xA (ak mg 2 DJ))(b:aj P w K mg base 13 "choices" wR (ak mg 2 C4))(a:aj P w K mg base 12 "one_changed" xo (ak mg 2 DA))(j:aj P w K mg base 14 "bound" wL (ak mg 1 C0)):aj P w K mg base 20 "_law_ask" wu (ak mg 5 CY):=by
 refine bF T Wo λp M r x nd=>⟨_,(av (bJ (d_ x (vr 0) ai) (ay (aN (dL c p r (aa (vr 1) af)))) bM)
  (av (bJ (d_ x (vr 0) ai) (ay (aN (dL d p r (aa (vr 1) af)))) bM)
  (av (bJ (d_ x (vr 0) ai) (ay (aN (c6 (dL k p r (aa (vr 1) (aa (vr 4) af))) (cE (aa ai af))))) bM)
  (av (bJ (d_ x (vr 0) ai) (ay (aN (c6 (dL b p r (aa (vr 1) (aa (vr 3) af))) (cE (aa ai af))))) bM)
  (ay (aN (ve (d_ x (vr 0) ai) (c6 (dL a p r (aa (vr 1) (aa (vr 4) af))) (cE (aa ai af))) (dL j p r (aa (vr 2) af))))))))),λds A R h N=>?_⟩
 obtain⟨i,m,ms,ks,rs,rfl,O,Q,o,l,bm,E,h1,s,t,q⟩:=h;have hz:(3000:Nat)<=sizeLine:=δ
 have ln:=iZ l;have e:i=0\/i=1\/i=2\/i=3\/i=4\/i=5:=ω
 rcases e with rfl|rfl|rfl|rfl|rfl|rfl
 .exact⟨rfl,m,rfl,o,l,λu v f g=>q _ _ _ f .a0 g⟩
 .exact⟨rfl,m,rfl,o,l,λu v f g l1=>q _ _ _ f .a1 g⟩
 .refine⟨rfl,m,rs,rfl,o,bm,l,λu v f g l1=>?_⟩
  have h0:=(uO o l E h1 s t (.a2 (ms:=ms) (ks:=ks) (rs:=rs))).2.1;refine⟨show 1<=sizeLine by decide,iR ((Gr.push (T:=[C.lst [D.int 1]])).get g) aE ?_ (q _ _ _ ((f.trans Gr.push).trans Gr.push) .a2 aE)⟩;rw[cM] at h0;simp only[yc] at h0 ⊢;omega
 .refine⟨rfl,m,ks,rfl,o,l,E,λn u v ys f l1 y z g=>?_,λn u v f l1 g=>?_⟩
  .have h0:=(uO o l E h1 s t (.a3 (ms:=ms) (ks:=ks) (rs:=rs) ys n y z)).2.1
   refine⟨show 1<=sizeLine by decide,iR ((Gr.push (T:=[C.lst [D.int 1]])).get g) aE ?_ (q _ _ _ ((f.trans Gr.push).trans Gr.push) (.a3 ys n y z) aE)⟩;rw[cM] at h0;simp only[yc] at h0 ⊢;omega
  .exact⟨show 1<=sizeLine by decide,iR ((Gr.push (T:=[C.lst [D.int 1]])).get g) aE (show 1<=sizeLine by decide) (q _ _ _ ((f.trans Gr.push).trans Gr.push) (.rA n) aE)⟩
 .refine⟨rfl,m,rs,rfl,o,bm,l,λn u v ns ys f l1 F B y z g=>?_,λn u v f l1 g=>?_⟩
  .have h0:=(uO o l E h1 s t (.a4 (ms:=ms) (ks:=ks) (rs:=rs) ns ys n B y z)).2.1
   refine⟨show 1<=sizeLine by decide,iR ((Gr.push (T:=[C.lst [D.int 1]])).get g) aE ?_ (q _ _ _ ((f.trans Gr.push).trans Gr.push) (.a4 ns ys n B y z) aE)⟩;rw[cM] at h0;simp only[yc] at h0 ⊢;omega
  .exact⟨show 1<=sizeLine by decide,iR ((Gr.push (T:=[C.lst [D.int 1]])).get g) aE (show 1<=sizeLine by decide) (q _ _ _ ((f.trans Gr.push).trans Gr.push) (.rB n) aE)⟩
 .refine⟨rfl,_,N6,rfl,⟨ms,pW h1 s t⟩,kN,λG H=>?_,λF=>absurd ⟨ms,pW h1 s t⟩ F⟩
  have e:=(Ao H).symm;subst e;exact⟨lD s t,λS U es I J L V=>q _ _ _ J (.a5 es I) L⟩
theorem OT{fo:Addr}{fd:FuncData}(T:k8 K "law" "law" lK fo fd)(U:mg "list"=none)(X:mg "range"=none)(F:mg "isinstance"=none)(J:aj P w K mg base 3 "_law_draw" kO (ak mg 3 mw))(L:aj P w K mg base 6 "_law_hall" wC (ak mg 2 Dc))(M:aj P w K mg base 10 "_law_some" wJ (ak mg 3 (DG 2)))(l:aj P w K mg base 5 "_law_numbers" wI (ak mg 2 Dv))(G:aj P w K mg base 10 "_law_names" wH (ak mg 1 Dy))(o:aj P w K mg base 5 "_law_weights" sM (ak mg 3 zo))(g:aj P w K mg base 20 "_law_ask" wu (ak mg 5 CY))(O:aj P w K mg base 3 "_law_free" wA (ak mg 1 C8))(c:aj P w K mg base 10 "_law_all_names" wo (ak mg 1 CZ))(t:aj P w K mg base 14 "settled" xu (ak mg 2 SSet)):gb P w K mg base (bV P w) 26 fo fd AX (ak mg 1 Dg):=by
 refine PD T JW rfl δ λN RE f cdv B outer s H E i hR Q ds A R h hl=>?_;have hu:=i.units;have nd:=JW.nd;refine⟨_,(@av _ _ _ _ _ _ (dS 1 nd (cE af)) (@av _ _ _ _ _ _ (dS 2 nd (dL J i Q (aa (vr 0) (aa (vr 1) (aa ai af))))) (@av _ _ _ _ _ _ (dS 3 nd (dL L i Q (aa (vr 0) (aa (vr 1) af)))) (@av _ _ _ _ _ _ (dS 4 nd (dL M i Q (aa (vr 0) (aa (vr 1) (aa ai af))))) (@av _ _ _ _ _ _ (dS 5 nd (dL l i Q (aa (vr 0) (aa (vr 1) af)))) (@av _ _ _ _ _ _ (dS 6 nd (dL o i Q (aa (vr 0) (aa (vr 1) (aa (dL G i Q (aa (vr 4) af)) af))))) (@av _ _ _ _ _ _ (eH dM rfl (zT X (aa ai af)) (dG 7 nd) (@av _ _ _ _ _ _ (dS 8 nd (mJ (c6 (vr 2) (eZ ai (vr 7))) ai)) (@av _ _ _ _ _ _ (dS 9 nd (dL g i Q (aa (vr 8) (aa (vr 4) (aa (vr 3) (aa (vr 5) (aa (vr 6) af))))))) (@av _ _ _ _ _ _ (dS 10 nd (ie Ek EN U boot_list (aa (vr 9) af))) (@av _ _ _ _ _ _ (c7 (gM gV jC jE iY jq (vr 9) (aa bE af))) (@av _ _ _ _ _ _ (NK (vr 9) ai jP) (@av _ _ _ _ _ _ (dS 11 nd (dL g i Q (aa (vr 8) (aa (vr 4) (aa (vr 3) (aa (vr 5) (aa (vr 6) af))))))) (@ay _ _ _ _ (bJ (PW.pt (gO (jV hu (vr 11) (vr 10)) (iE (fF (e_ (kr RU F U boot_list (vr 11))))))) (@ay _ _ _ _ (aN ic)) bM))))))))) (@av _ _ _ _ _ _ (bJ (e_ (dL O i Q (aa (vr 3) af))) (@av _ _ _ _ _ _ (dS 12 nd (dL t i Q (aa (vr 3) (aa (bW (aa (bW (aa (dX hu (dL c i Q (aa (vr 3) af)) ai) (aa ai af))) af)) af)))) (@av _ _ _ _ _ _ (c7 (gM gV jC jE iY jq (vr 12) (aa bE af))) (@ay _ _ _ _ (aN (zY hu (dL t i Q (aa (vr 3) (aa (bW (aa (bW (aa (dX hu (dL c i Q (aa (vr 3) af)) ai) (aa ai af))) af)) af))) (zQ (vr 12) zV (zW (Nk ai)))))))) bM) (@ay _ _ _ _ (aN ic)))))))))),?_⟩;obtain⟨ns,rfl,q⟩:=h;have hz:(3000:Nat)<=sizeLine:=δ
 refine⟨bQ _,rfl,ns,_,6,0,rfl,⟨[],aE,aF _⟩,δ,δ,λb A1 b0 b6 t1 w1=>?_⟩;refine⟨rfl,ns,_,_,rfl,w1,δ,λms A2 h1 h5 u d2=>?_⟩;have I:ms.length<=6:=ω
 refine⟨rfl,ns,_,_,rfl,d2.tw,δ,λm A3 wm dm d3=>?_⟩;have Y:m.deep<=5:=ω
 refine⟨rfl,ns,_,_,rfl,d3.tw,δ,λks A4 hk _ d4=>?_⟩;refine⟨rfl,m,rfl,Y,λA5 q5 ys g5 l5 e5 Z As=>?_⟩;have ly:ys.length<=32:=cC (jS ys m.names (tV Z) λx Q=>(As x).mp Q) (iZ Y);have nt:q5≠A.length:=λz=>by
  obtain⟨_,z1,_⟩:=d4.tw;have:=cy z1;omega
 refine⟨rfl,ns,_,q5,ys,_,rfl,nt,e5,Z,λx Q=>wm.nm x ((As x).mp Q),ω,d4.tw.gr g5,δ,λrs A6 hW QL d6=>?_⟩;have bm:Bk rs m:=⟨hW,λn y=>by rw[QL];exact(As n).mpr y⟩;clear d2 d3 d4 d6 w1 t1 g5 e5;refine⟨δ,δ,?_⟩;refine eG (λrest τ A'=>∃(j:Nat) (x7 x8 x9 Cf Cg:Option D),j<=6/\rest=(fK 0 6).drop j/\τ=[some (.fl ns),some (.ref A.length),some (.int b),some (.tup (ms.map enc)),some (enc m),some (.tup (ks.map D.int)),some (fc rs),x7,x8,x9,Cf,Cg,none]) ?_ ?_ ?_ _ _ _ ⟨0,none,none,none,none,none,bQ _,rfl,rfl⟩
 .intro _ _ _ _
  trivial
 .rintro v rest τ A7 ⟨j,x7,x8,x9,Cf,Cg,hj,e,rfl⟩ Nx hN
  obtain⟨rfl,rfl,hlt⟩:=Iz e;refine⟨.inl ⟨δ,δ⟩,(show(0:Int)<6 by decide),?_⟩;have i0:0<=(b+5*((j:Nat):Int))%6:=qM _ δ;have i6:(b+5*((j:Nat):Int))%6<6:=qL _ δ;refine⟨rfl,(b+5*((j:Nat):Int))%6,m,ms,ks,rs,rfl,i0,i6,wm,Y,bm,hk,h1,I,u,λA8 q8 xs g8 ha e8=>?_⟩;obtain⟨xne,xl,xd⟩:=uO wm Y hk h1 I u ha;refine Su e8 ?_;have e9:=(Gr.push (T:=[C.lst xs])).get e8;have c9:(A8++[C.lst xs])[A8.length]?=some (.lst xs):=aE;have ne:q8≠A8.length:=bB (cy e8);generalize ZA:(A8++[C.lst xs]:Ar)=A9 at e9 c9 ⊢;refine⟨gx e9,iP e9 ω ?_⟩;have Fo:(A9.set q8 (.lst (xs++[D.str "changed"])))[q8]?=some (.lst (xs++[D.str "changed"])):=eF (cy e9);have Eg:(A9.set q8 (.lst (xs++[D.str "changed"])))[A8.length]?=some (.lst xs):=by rw[eE ne];exact c9
  generalize (A9.set q8 (.lst (xs++[D.str "changed"])):Ar)=CB at Fo Eg ⊢;refine Sq (j:=0) Fo (by unfold iX;simp) ?_;have Eh:(CB.set q8 (.lst ((xs++[D.str "changed"]).set 0 .aG)))[A8.length]?=some (.lst xs):=by rw[eE ne];exact Eg
  generalize (CB.set q8 (.lst ((xs++[D.str "changed"]).set 0 .aG)):Ar)=Zo at Eh ⊢;refine⟨rfl,(b+5*((j:Nat):Int))%6,m,ms,ks,rs,rfl,i0,i6,wm,Y,bm,hk,h1,I,u,λKY VJ ys' vE ha' Fp=>?_⟩;have ee:=LR ha' ha;subst ee;obtain⟨s1,s2,s3⟩:=vo xd;refine Ho Fp (vE.get Eh) s1 s2 ω ?_;have ety:m_ KY (.ref VJ)=some "list":=by unfold m_;simp only[Fp]
  conv=>whnf
  rw[ety];conv=>whnf
  exact hN _ _ ⟨j+1,_,_,_,_,_,ω,rfl,rfl⟩
 .rintro τ A7 ⟨j,x7,x8,x9,Cf,Cg,hj,e,rfl⟩
  refine⟨rfl,ms,rfl,I,u,λbb A8 hb g8=>?_⟩;cases bb with
  |false=>exact q _
  |true=>
  obtain⟨_,hcw⟩:=hb rfl;have hr0:i9 (ms.map aQ)=none:=PM I u hcw;have wk:∀n:Str,Nm n->jm [(n,6)]:=λn y=>⟨λr i=>by rw[bI.mp i];exact y,λr i=>by rw[bI.mp i];exact⟨show(1:Int)<=6 by decide,show(6:Int)<=999999 by decide⟩,θ,θ⟩;have Kw:∀{n:Str},jI ms n->∃T∈ms.map aQ,n∈aH T:=λ {n} ⟨m,hm',y⟩=>⟨_,cX hm',((lQ (jU (u m hm'))).2.1 n).mpr y⟩;have DQ:∀{n:Str},jI ms n->Nm n:=λ {n} ⟨m,hm',y⟩=>kN n (names6 (u m hm') n y);have S8:∀{nm:Str} {k:Int} {es:List (Str×Rat)},es.Perm (qf (ms.map aQ) [(nm,k)])->∀r∈es,Nm r.1:=λ {nm k es} Z r i=>by
   obtain⟨P,hP,i⟩:=gz.mp (Z.mem_iff.mp i);obtain⟨n0,hn0,_,rfl,_⟩:=Ak u I hP;have h1:r.1∈(fL (ms.map aQ) [(nm,k)] (aO (ms.map aQ) n0)).map (·.1):=cX i;rw[xM] at h1;split at h1
   .cases h1
   .exact kN _ ((gQ (lD I u) hn0).1.sub _ h1)
  refine⟨rfl,ms,rfl,I,u,λA9 q9 zs g9 e9 l9 zp zm=>?_⟩;obtain⟨S,zr,rfl⟩:∃S zr,zs=S::zr:=by
   cases zs with
   |cons S zr=>exact⟨S,zr,rfl⟩
   |nil=>
    cases ms with
    |nil=>simp at h1
    |cons m0 ms=>
     have G1:=aX.oh m0;cases e0:m0.names with
     |nil=>rw[e0] at G1;simp at G1
     |cons n0 r0=>
      have:=(zm n0).mpr ⟨m0,aT ..,by rw[e0];exact aT ..⟩;cases this
  have V:jI ms S:=(zm S).mp (aT ..);refine kF e9 (v:=.str S) (mC (j:=0) rfl) ?_;refine⟨show 2<=sizeLine by omega,show 1<=sizeLine by omega,rfl,_,N6,[(S,6)],rfl,⟨ms,pW h1 I u⟩,kN,wk S (DQ V),λls hH=>?_,λy=>absurd ⟨ms,pW h1 I u⟩ y⟩;have e1:=(Ao hH).symm;subst e1;refine⟨lD I u,λp Z=>by rw[bI.mp Z];exact Kw V,λy=>absurd hr0 y,λ_=>⟨λP hP n y=>(Al u I P hP n y).w,λ_ B7 p7 W y1 y2 y3 y4 y5=>?_,λy=>absurd (J6 u I S 6) y⟩⟩;have Zt:W.length<=6:=by
   have:=jS (W.map (·.1)) N6 (tV y3) λx Q=>by
    obtain⟨r,i,rfl⟩:=aM.mp Q;obtain⟨P,hP,i⟩:=gz.mp (y2.mem_iff.mp i);obtain⟨n0,hn0,_,rfl,_⟩:=Ak u I hP;have h1:r.1∈(fL (ms.map aQ) [(S,6)] (aO (ms.map aQ) n0)).map (·.1):=cX i;rw[xM] at h1;split at h1
    .cases h1
    .exact(gQ (lD I u) hn0).1.sub _ h1
   rw[aK] at this;simpa[N6] using this
  refine⟨gx y4,iP y4 (by rw[aK];omega) ?_⟩;have t4:(B7.set p7 (.lst (W.map di++[D.str "changed"])))[p7]?=some (.lst (W.map di++[D.str "changed"])):=eF (cy y4);generalize (B7.set p7 (.lst (W.map di++[D.str "changed"])):Ar)=B8 at t4 ⊢;refine⟨rfl,ms,rfl,I,u,λZp Z_ zs' PU NQ ZQ Zl Zj=>?_⟩;have ez:zs'=S::zr:=up_eq (r:=strLt) (λ_ _=>qj) Zl zp λx=>(Zj x).trans (zm x).symm;subst ez;refine kF NQ (v:=.str S) (mC (j:=0) rfl) ?_;refine⟨show 2<=sizeLine by omega,show 1<=sizeLine by omega,rfl,_,N6,[(S,6)],rfl,⟨ms,pW h1 I u⟩,kN,wk S (DQ V),λls hH=>?_,λy=>absurd ⟨ms,pW h1 I u⟩ y⟩;have e1:=(Ao hH).symm;subst e1;refine⟨lD I u,λp Z=>by rw[bI.mp Z];exact Kw V,λy=>absurd hr0 y,λ_=>⟨λP hP n y=>(Al u I P hP n y).w,λ_ B9 p9 z0 w1 w2 w3 w4 w5=>?_,λy=>absurd (J6 u I S 6) y⟩⟩;have NW:z0=W:=up_eq (r:=λa b:Str×Rat=>strLt a.1 b.1) (λ_ _=>qj) (jA.mp w3) (jA.mp y3) λx=>by rw[w2.mem_iff,y2.mem_iff]
  subst NW;have t9:=w1.get (PU.get t4);refine XG t9 ?_;rw[MD];obtain⟨s1,s2,s3⟩:=vo (k:=60) (xs:=z0.map di) λd hd=>by
   obtain⟨p,Z,rfl⟩:=aM.mp hd;obtain⟨a1,a2,a3,_⟩:=J5 (S8 y2 p Z);exact⟨a1,a2,a3⟩
  exact N_ ((Gr.push (T:=[C.lst (z0.map di)])).get w4) aE s1 s2 s3 (q _)
end My
namespace L2
theorem tD{K:Frag}{h:Heap}{mg:aB}{x:Str}{st:Stmt}{ps:List Str}{f:Addr}{g:Value}{i an:Option Addr}{e:Array (Option Value)}{kV doc pm b ct:Value}(X:K.In h)(G:h.Ns mainGlobals mg)
  (a:nsIn K mainGlobals x=some (some (.ref f)):=by k_is)(l:K.lookup f=some ⟨g,i,.func (fnOf x x (mK st) (iD st) (aI st) .none kV doc pm an b ct),e⟩:=by k_is)(c:codeIn K b x=true:=by k_is)(k:keepIn K (.ref f)=true:=by k_is)
  (j:∀(kV doc pm:Value) (an:Option Addr) (b ct:Value) (d:List Value),d.length=ps.length->bindArgs (fnOf x x (mK st) (iD st) (aI st) .none kV doc pm an b ct) ⟨d,[]⟩=pure (ps.zip d):=by(intro _ _ _ _ _ _ d m;rcases d with _|⟨_,_|⟨_,_|⟨_,_|⟨_,_|⟨_,_|⟨_,_⟩⟩⟩⟩⟩⟩<;>first|rfl|(simp at m))):TopD K mg x st ps:=
 ⟨f,_,z_ l c k,(z_ l c k).binds j,mg_of X G a⟩
theorem bN{K:Frag}{h:Heap}{mg:aB}{x:Str}(X:K.In h)(G:h.Ns mainGlobals mg)(a:nsIn K mainGlobals x=some none:=by k_is):mg x=none:=PySem.W.mg_none_of X G a
theorem eX{K:Frag}{h:Heap}{mg:aB}{x:Str}{v:Value}(X:K.In h)(G:h.Ns mainGlobals mg)(a:nsIn K mainGlobals x=some (some v):=by k_is):mg x=some v:=mg_of X G a
end L2
namespace My
open L2 DP MA
theorem walk{l:PySem.W.OpenLaw}{q:Program}{loose:List Str}{i:(aB)->Heap->Prop}{c:World->Heap->Prop}{d:DefRec}{K:Params->Frag}(j:l.most=some 63)(b:d.params.defaults=[])(m:∀p,(K p).all (λp=>oj p.2)=true)
  (o:∀(w:World) (h:Heap),c w h->(K w.params).In h)
  (F:∀(w:World) (mg:aB) (g:Addr) (h:Heap),(K w.params).In h->h.Ns mainGlobals mg->mg d.name=some (.ref g)->
   ∃fd:FuncData,(∀(s:Shared) (u:Value),BindsTo s fd ⟨[u],[]⟩ [("_law_script",u)])/\∀base:Heap,(K w.params).In base->base.Ns mainGlobals mg->gb l.prog w (K w.params) mg base (bV l.prog w) 26 g fd ["_law_script"] qg):
  PySem.W.WalkO q loose i c l.row.toRowW d [] (λf vs=>PySem.call f vs):=
 L2.Y7 (n:=63) (k:=26) (x:="_law_script") (CX:=λw=>bV l.prog w) (sp:=λ_=>qg) j δ b ⟨rfl,δ,δ⟩ o F (λw H a ns _ r t=>PN (m w.params) r t) λw H s e s' z=>by
  obtain⟨_,_,_,_,_,z⟩:=z
  exact z
theorem R_{P:Program}{w:World}{K:Frag}{h:Heap}{mg:aB}{o j:Addr}{k b:Option Addr}{l:Array (Option Value)}{m c d g a i:Value}(X:K.In h)(G:h.Ns mainGlobals mg)(n:mg "law"=some (.ref o))
  (a3:nsIn K mainGlobals "law"=some (some (.ref j)))(p:K.lookup j=some ⟨m,k,.func (fnOf "law" "law" (mK lK) (iD lK) (aI lK) .none c d g b a i),l⟩)(q:codeIn K a "law"=true)(k3:keepIn K (.ref j)=true)
  (go:∀(base:Heap) {f:Addr} {fd:FuncData},k8 K "law" "law" lK f fd->gb P w K mg base (bV P w) 26 f fd AX qg):
  ∃fd:FuncData,(∀(s:Shared) (v:Value),BindsTo s fd ⟨[v],[]⟩ [("_law_script",v)])/\∀base:Heap,K.In base->base.Ns mainGlobals mg->gb P w K mg base (bV P w) 26 o fd ["_law_script"] qg:=by
 have e:=n.symm.trans (mg_of X G a3)
 cases e
 exact⟨fnOf "law" "law" (mK lK) (iD lK) (aI lK) .none c d g b a i,λs v=> .of_eq rfl,λbase _ _=>go base (z_ p q k3)⟩
end My
end
open PySem PySem.W PyProof.Rows
set_option maxHeartbeats 0
structure PySem.W.Fast:Prop where (tw14739391264513401825 tw861502493610598483 tw4287531850137106228 tw9306511735689505906 tw7774113678449685934 tw17546402167060200659 tw11284616107681220019 tw16947378819872066576 tw11509211604773734946 tw4244922878905308065 tw1799641797098859658 tw14594121865129679737 tw12088173506995129815 tw17348111734160510231 tw8331849164307833061 tw17284588472162393981 tw5323657890516693427 tw3332303416296171656 tw12770481643036789091 tw11948173574018764312 tw12297992134047619483 tw12798174099139212305 tw514280064592716601 tw4607425872040536859 tw15528221797031607849 tw7933485763601977624 tw18314875396610151526 tw15163409612377130007 tw14904681115217272601 tw991626836265849350 tw14963028359598502718 tw9947508896943372755 tw17653592248189364939 tw16203965252921439515 tw6030501089693204938 tw14961746396406840608 tw13861969467909019144 tw11853640710764476214 tw14577027041581768965 tw16873086082458093902 tw2595585439558603231 tw3235425350174046738 tw16753820520455620202 tw3713540243193553862 tw8285278889055680438 tw11161164713144168021 tw2080317491765294665 tw8535803893964050539 tw12314708539913122752 tw17267597263503486738 tw14560624547652848805 tw12740759652641322565 tw13114645530532618160 tw12147665669636231765 tw7480016910919988345 tw5459702643516471331 tw977512076041815475 tw8432719020341155521 tw12747814925858328940 tw11024694936033576346 tw1937721966566455358 tw6105849179199505303 tw1708089923452030704 tw12408111787983249662 tw2314633323536394700 tw6542358382571353910 tw15539815450414544023 tw17590705303994421779 tw9404705873571188630 tw1599053048872161195 tw12670982853097334264 tw1532491051758110099 tw4321966507151631593 tw13053770412826190925 tw15621415185263527259 tw4562827626845409882 tw3365755272349913518 tw7867829370405329436 tw13135312941875745310 tw6170744672141170255 tw12099505692703838030 tw18183970276198133131 tw8422229294311615681 tw3681537716864247207 tw3270257207059953099 tw9456574344343218679 tw4493901809537577575 tw4171853373547519906 tw8498532028676091811 tw9402243437249704421 tw16607193741793207195 tw5537553045615171315 tw8159993647027272844 tw10910644110388302437 tw11384182702204212275 tw6548459193220583526 tw547895379624588593 tw2261719852989239553 tw6427576097997697322 tw14611616552423853409 tw7322748291113730364 tw1725486776273817318 tw4906484309439969231 tw17613222154834848340 tw13913613514976480042 tw6408400580700104982 tw6607644564249050058 tw256976265262469064 tw15895094517606616290 tw6128145076113358165 tw14226173905949225808 tw5000232492035539693 tw4323258101793500111 tw15401437161963490237 tw4309217394794523951 tw12772213712371865176 tw13034982811429478159 tw12887044766017154078 tw14404928986312190071 tw10258873121960336067 tw5217270863462422736 tw14196522196718054806 tw15240619367488684849 tw14664691819916384248 tw4046790133079468173 tw6702445572142316249 tw16636501806038632012 tw2570914705882880060 tw9510108024173832781 tw6278996535519779258 tw10295913840692754127 tw14993981098963755598 tw1207101557538958131 tw6148498323302512570 tw17760279517084355780 tw16756451883985382160 tw4561898282857576226 tw7001957589650049515 tw16615150188913437886 tw14689541978594310382 tw8186657734068701312 tw2084650752826471497 tw9972681490609642005 tw247591363613054380 tw1979317910248211280 tw14903569129155370506 tw11513857634932158529 tw15541240446876304647 tw15235614512728720 tw18293242582946804979 tw16298917771340976007 tw9879335643197240621 tw10876078143196172821 tw9592521066531166775 tw8047209995159408440 tw15254633091992210921 tw4734895289157585001 tw1000662321505670351 tw15685335758407661847 tw2931988195819169919 tw10042083083395451092 tw17013487888433625170 tw6782663255696616371 tw9784134513789038367 tw5994696166404524948 tw10624116801336726872 tw17483705464198625004 tw6798380500665416597 tw140001813534094272 tw14074196154385387334 tw15173544498738437827 tw18031968618487185184 tw1293241653719404408 tw11662115353561507501 tw17214186515701724070 tw3419001889969749887 tw16279288168775177219 tw14842496431369740429 tw6356304189028158447 tw2483420100392427323 tw3300454383303005205 tw4953865588907285216 tw6229817132586351632 tw3382625519597670723 tw2789304352393801511 tw2646887283097553488 tw18157406047293677543 tw5101696844757716304 tw4075453323654395381 tw11898673842065290130 tw9860861378791804195 tw14424681132571578402 tw16864618592142003386 tw12382822922155266910 tw3239113980409921550 tw3543459598558145280 tw11564986514327137767 tw14935467056822913822 tw8431482922422412695 tw28018229315631829 tw1205604411410820431 tw6968137755033780318 tw1864683662541468164 tw8997383693586321770 tw12903330217458380548 tw16822532161544500889 tw615563214671542189 tw13462424878891718212 tw17518593693041627797 tw8374155422468719031 tw3049343062529576306 tw2107523057676978006 tw17339309145561079191 tw15590096980072825465 tw1383625962624193546 tw17464319187374939960 tw447263597446747957 tw3953844824629472508 tw8995945545434573385 tw5002640475654186023 tw11408881796089955267 tw2259672571474061568 tw17334828202450815106 tw11429584451438056573 tw10297410513487048360 tw7046044490832178742 tw6472337539984862722 tw3238445694619138142 tw1922157984580058403 tw15554417296805563061 tw11692469974320434101 tw10341888390210383824 tw599730875272715187 tw1835071406663858368 tw11153475782318119604 tw5289818103960998278 tw2358075552688931204 tw13444670453868202053 tw140236481695663071 tw14219159868682941630 tw12431713363859531893 tw446995266069924076 tw13757698761724263525 tw2827255003249426055 tw13674586047789940208 tw11502921971960690029 tw890339118813698166 tw5890639436620234070 tw4015202173357781934 tw3374319085511977134 tw16902440903046159558 tw13831308528885131752 tw8157277791214410489 tw5725222548895626118 tw2399617604181995578 tw14172470266813156586 tw7212858340449540239 tw12954591660760965231 tw12138319994727072339 tw384561282630992784 tw4699756791338806529 tw14261769069557060686 tw5344687154915797982 tw14564479935002850509 tw8737599933303070863 tw11738243743197964597 tw10988312798546598065 tw8222940686941784037 tw17260811203177919210 tw9757595895972200118 tw11373181179767321252 tw15042883488752021643 tw855453113358079251 tw17170472223608059050 tw16120054744476736488 tw13769103115541136327 tw12652081859355081885 tw18418582437962087742 tw542563422162235373 tw16053306600634468012 tw2692750590507578028 tw14243238205550065757 tw10016166984437732892 tw10741264400317747893 tw8972062959192195235 tw13810262117814702294 tw13160504802963445071 tw10510019762269167821 tw3303267245142563540 tw10698057553749749337 tw8739830900816887780 tw16766683885213920930 tw13946496683202179788 tw9582823730064241283 tw18437792190763421558 tw938635154573522699 tw17744993626210230056 tw3778530596728393105 tw6858818405166986180 tw3099597729799864441 tw5667099127317398114 tw896239598344801917 tw8912161614967838395 tw5438652380644606353 tw4635989785427082552 tw3985964047577975286 tw16409965706819354750 tw11066385474520676512 tw8899516883271353254 tw11962351593759143498 tw17062427158221528723 tw443766864951011646 tw1840220198017710270 tw11868262807325357491 tw643336161829623379 tw10374632558016547081 tw10551173667578312727 tw5872530126848033075 tw12188032599808994241 tw4804111812005502284 tw4436474186459923750 tw1915925776726481438 tw9536688357841153863 tw6128106870883400570 tw209982475168477708 tw1495895850433845275 tw7424060955962978353 tw5449601097390414333 tw3641951560692057861 tw3042748168174471775 tw14782755387869428366 tw11401859456886640639 tw6953138203311097117 tw8949853181751564097 tw7476452910721959123 tw2400638427578300857 tw17187875760726034783 tw12727641955093265886 tw10294118229990073760 tw4077048163395320219 tw9977182230042388008 tw5702276774652866934 tw2353497105660221152 tw18101783494082082527 tw16670775579421159206 tw9495317472360511255 tw5498123283257192965 tw16955839230299176341 tw11766667032028208565 tw11421057715548341654 tw10792498714594961201 tw9919008367099125623 tw9848817304349107530 tw9796564346219866840 tw9689729476882780088 tw9646623106273453227 tw9461873434466728008 tw9387514328989991554 tw9331231397406362311 tw9197174079833555027 tw9116068151291705539 tw9113380124883318265 tw896878414759379649 tw8865387616306378214 tw87601786513091389 tw8760152093665844161 tw866717566613908145 tw8565224436197482051 tw8318101203651539667 tw8219003486749837733 tw819570635367399668 tw8171798328758944481 tw8080008513338510535 tw8060666987683057360 tw7943549864190904611 tw7921390202802761869 tw772564365185477556 tw7485256538410118956 tw740290905518256060 tw7374399212775623666 tw7217548393331319763 tw7164969610272591079 tw6690350156832105676 tw6575520176995025181 tw6549852094080907030 tw6522051377940421278 tw6469784823511061222 tw6420159726195949164 tw6056707288978253535 tw5832305185047221409 tw5622701340561072331 tw561727478393794602 tw539538531456391632 tw4849480874435393781 tw4684226298888400098 tw4683681711962371626 tw4548300405975405348 tw4547051000311932777 tw4480162626587320490 tw4334401890000744311 tw4189273013823423559 tw4096438862311573950 tw3919386906821981792 tw3897268976836264337 tw3671519592330383864 tw3520257249291928256 tw3300257896294614128 tw3215387988796971590 tw3110587219445414310 tw2950685276103557050 tw2941924889016668590 tw2741014181512449073 tw2694234056635809718 tw2474200967059427378 tw2295934692909999376 tw2244103112122482387 tw2187251505897268136 tw2135409205425526673 tw1972164579936704799 tw1956775160557780875 tw1956260828630720203 tw18383651708701053236 tw18367749455379333440 tw18328257000508772394 tw18146532975450069615 tw17435391645217708394 tw17351735930882485243 tw17318462890700432884 tw1717767836212652739 tw16860917588515726111 tw16728255500844073214 tw16723463757517087524 tw16721508838639397229 tw16682895059504647277 tw16654469307462801742 tw16493865465440409018 tw16226643914720891334 tw16217903435359918192 tw1607123104830579860 tw15925456577456769635 tw15861351967447197489 tw15779231459743154856 tw15752536640612570366 tw15438627641174518403 tw15402603294489630176 tw15227483606004533461 tw15127105006835628225 tw14958820412457663293 tw14760874974797668852 tw1467881925912835984 tw14520296925931582552 tw14391293386007564604 tw14170518179582410385 tw14022695629967993375 tw1401067106901849026 tw13953587524928339648 tw13812277999558781770 tw13669536469129627823 tw13547939009206843870 tw13421457143807847188 tw1342123614928995077 tw13385558918117058561 tw12768989823518198380 tw12488014758255163090 tw12330612334027959195 tw12269216009862288129 tw1205274952441263945 tw11907897558876765624 tw11823594873375168262 tw1158361714356455011 tw11481637867367846703 tw10888863842102328177 tw10879749546641988924 tw10842938092177581297 tw10826640976665885199:True)
open L2 DP MA My
open_top hd for PySem.Challenge.rw_hangstill_k40_whole_again_and_kept
theorem PySem.Challenge.cw_hangstill_k40_whole_again_and_kept_holds : PySem.Challenge.rw_hangstill_k40_whole_again_and_kept.Holds := by
 refine hd ?_;k_fill;refine My.walk (l:=PySem.Challenge.rw_hangstill_k40_whole_again_and_kept) rfl rfl ?K (λw h Y=>PySem.W.kIn_of Y) ?F;case K=>exact λp=>(Eq.refl true:true=true)
 case F=>
  intro w mg fa h KX G hmg;refine' My.R_ KX G hmg ?aL ?lL ?cL ?kL ?P6;(case aL=>k_is);(case lL=>k_is);(case cL=>k_is);(case kL=>k_is);case P6=>
   intro base f fd T;have SD:mg "NoMobile"=some _:=eX KX G;have SA:mg "NoHall"=some _:=eX KX G;have AN:mg "NoWeights"=some _:=eX KX G;have SE:mg "NoNumber"=some _:=eX KX G;have AM:mg "Never"=some _:=eX KX G;have yO:=OQ (P:=PySem.Challenge.rw_hangstill_k40_whole_again_and_kept.prog) (w:=w) (base:=base) (tD KX G) (bN KX G) (bN KX G) (bN KX G);have CN:=OP (P:=PySem.Challenge.rw_hangstill_k40_whole_again_and_kept.prog) (w:=w) (base:=base) (tD KX G) (bN KX G) (bN KX G) (bN KX G) (bN KX G) (eX KX G);have Lc:=ON (tD KX G) (bN KX G) (bN KX G) (bN KX G) (bN KX G) (eX KX G) CN yO 6;have CK:=OO (tD KX G) (eX KX G) Lc;have qW:=Ov (tD KX G) SD (by k_exc) CK;have CI:=OH (P:=PySem.Challenge.rw_hangstill_k40_whole_again_and_kept.prog) (w:=w) (base:=base) (tD KX G);have CS:=Pf (tD KX G) CI;have uC:=Pb (tD KX G) CS;have yP:=Pe (tD KX G) CS;have Lz:=Po (tD KX G) uC 6;have uD:=Pn (tD KX G) qW Lz;have uB:=Om (tD KX G) uD;have Lr:=O9 (tD KX G) (bN KX G) uD;have LB:=Pq (P:=PySem.Challenge.rw_hangstill_k40_whole_again_and_kept.prog) (w:=w) (base:=base) (tD KX G) (bN KX G);have Lu:=Pc (tD KX G) (bN KX G) LB;have yM:=OI (tD KX G) Lu;have K2:=Oq (P:=PySem.Challenge.rw_hangstill_k40_whole_again_and_kept.prog) (w:=w) (base:=base) (tD KX G) (bN KX G);have CG:=OA (tD KX G) uC yP;have K6:=Oz (P:=PySem.Challenge.rw_hangstill_k40_whole_again_and_kept.prog) (w:=w) (base:=base) (tD KX G) (bN KX G) (bN KX G);have Lw:=Ph (tD KX G) yM K6 K2 CG;have Lp:=O6 (tD KX G) AM (by k_exc) Lw;have K5:=Ow (tD KX G) (bN KX G) (bN KX G) (bN KX G) (eX KX G) SA (by k_exc) CK uB;have CJ:=OM (tD KX G) K5 Lr;have Lo:=O5 (tD KX G) (bN KX G) (bN KX G) (bN KX G) (eX KX G) CN yO;have Ld:=OR (tD KX G) (bN KX G) (bN KX G) (bN KX G) (bN KX G) (bN KX G) Lo;have yN:=OU (P:=PySem.Challenge.rw_hangstill_k40_whole_again_and_kept.prog) (w:=w) (base:=base) (tD KX G) 8;have Lf:=OW (tD KX G) (bN KX G) yN;have CF:=Ot (tD KX G) AN (by k_exc) Ld;have CH:=OD (tD KX G) (bN KX G) AN (by k_exc) CF yN;have Lv:=Pd (tD KX G) Lf;have LC:=Pr (tD KX G) Lv 6;have LD:=Pw (tD KX G) (bN KX G) qW CH LC;have Li:=OZ (tD KX G) CI;have CQ:=O8 (tD KX G) (bN KX G) uD;have Lj:=O0 (tD KX G) (bN KX G) (bN KX G) (bN KX G) Li;have Lg:=OV (tD KX G) AM (by k_exc) uB CQ Lj;have LF:=Px (tD KX G) (bN KX G) yP;have Lm:=O3 (tD KX G) (bN KX G) uC;have Ls:=O_ (tD KX G) (bN KX G) (bN KX G) (eX KX G) qW CH uB CQ LF Lm;have K7:=OB (tD KX G) (bN KX G) (bN KX G) (bN KX G) (bN KX G) (bN KX G) (bN KX G) (bN KX G) (eX KX G) (eX KX G) SE (by k_exc) yO;have K4:=Ox (tD KX G) (bN KX G) (bN KX G) qW K7 uB Lg;have K1:=Oo (tD KX G) (bN KX G) (bN KX G) CJ yM;have La:=OJ (tD KX G) (bN KX G) CG;have K8:=OC (tD KX G) (bN KX G) AN (by k_exc) CF;have Ly:=Pk (tD KX G) AM (by k_exc) uC yP;have Lx:=Pj (tD KX G) (bN KX G) CJ K8 Lp yM Ly La;have Lh:=OY (tD KX G) qW yN;have K3:=Ou (P:=PySem.Challenge.rw_hangstill_k40_whole_again_and_kept.prog) (w:=w) (base:=base) (tD KX G) (bN KX G);have Lk:=O1 (tD KX G) K3;have nF:=OE (tD KX G) (bN KX G) Lk;have qX:=Pa (tD KX G) (bN KX G) nF;have Ll:=O2 (tD KX G) nF qX;have K_:=OG (P:=PySem.Challenge.rw_hangstill_k40_whole_again_and_kept.prog) (w:=w) (base:=base) (tD KX G) (bN KX G) 8;have LA:=Pp (tD KX G) nF qX Ll K_ 2 δ;have CL:=OX (P:=PySem.Challenge.rw_hangstill_k40_whole_again_and_kept.prog) (w:=w) (base:=base) (tD KX G) 8;have Lq:=O7 (tD KX G) (bN KX G) (bN KX G) CL;have KZ:=Oj (tD KX G) (bN KX G) (bN KX G) CL;have CU:=Py (tD KX G) (bN KX G) nF qX;have Lb:=OL (tD KX G) (bN KX G) (bN KX G) (bN KX G) (bN KX G) nF qX CU;have Ln:=O4 (tD KX G) (bN KX G) (bN KX G) (bN KX G) (bN KX G) nF qX;have CT:=Pu (P:=PySem.Challenge.rw_hangstill_k40_whole_again_and_kept.prog) (w:=w) (base:=base) (tD KX G);have Le:=OS (tD KX G) CT;have K9:=OF (tD KX G) CT Le;have K0:=Ol (tD KX G) Lh uD LD K4 Ls K1;exact(OT T (bN KX G) (bN KX G) (bN KX G) nF Lb LA Ln Lq CU K0 K9 KZ Lx).imp λvs H Q E h=>XM h
