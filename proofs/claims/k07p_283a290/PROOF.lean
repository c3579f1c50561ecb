import PyProof.Rows.All
import Wide.All
import OpenK.AllK
import PySem.Challenge.RW_hangstill_k07_whole_halls
set_option Elab.async false
set_option linter.all false
set_option maxRecDepth 100000
set_option maxHeartbeats 4000000
noncomputable section
theorem ω{p:Prop}(h:p:=by omega):p:=h
theorem δ{p:Prop}(h:p:=by decide):p:=h
theorem η{p:Prop}(h:p:=by decide+kernel):p:=h
theorem θ{p:Prop}(h:p:=by simp):p:=h
open PySem.Heap (DictOf ExtBut FlyingW SameBut get?_push_ne)
open Option (getD_none getD_some isSome_map map_some)
open PySem.W (Frag callWith_K cellsFrom_some codeIn codeRec_of excIn exmOne findIn fnOf hideAll hideAll_get instObj kdl_dict keepIn kitOne kitx_dict kitx_list kitx_tuple lookIn methodObj mg_of mroIn nsIn of_hideAll plainGet specialIn takesIn)
open Nat (log2_lt lt_trans mul_comm succ_pos zero_add)
open List (Pairwise Perm all_map countP_map find?_append foldl forIn_cons forIn_nil le_antisymm length_nil length_zip map_drop map_nil mem_filter mem_range nodup_nil not_lt of_mem_zip pairwise_map range range_succ replicate set_set take_length take_succ)
open Array (toList)
open Bool (not_eq_true' or_eq_true)
open Int (add_comm dvd_trans gcd_dvd_left le_of_dvd one_mul)
open PySem.F (args_tuple_add_2 called_tuple entry_tuple_add slot_dict_update slot_tuple_add slot_tuple_mul)
open PySem.PyData (canLay0 canLayAll0 depthAll eqvAll strOk)
abbrev mJ:=@PyProof.Rows.callWith_type1
abbrev rG:=@PyProof.Rows.slot_tuple_getitem
abbrev pU:=@PySem.F.slot_list_append
abbrev CW:=@PySem.F.slot_list_getattribute
abbrev C1:=@PySem.F.slot_tuple_getattribute
abbrev p7:=@PySem.F.type_list_append
abbrev C4:=@PySem.SeqAt.eqv_refl
abbrev jL:=@PySem.Around.under_plainId
abbrev gV:=@Array.getElem?_eq_getElem
abbrev su:=@Array.getElem?_eq_none
abbrev yK:=@Array.getElem?_eq_some_iff
abbrev CS:=@PySem.AutoSeq1.sub_tuple_tuple
abbrev nI:=@Bool.eq_iff_iff
abbrev cF:=@Bool.false_ne_true
abbrev yM:=@Bool.or_false
abbrev CT:=@PySem.Calls.call_function_entry
abbrev yN:=@PySem.Calls.spliced_cons
abbrev yO:=@PySem.Calls.spliced_nil
abbrev CU:=@PyProof.Rows.F.plain_set_update_loop
abbrev yU:=@PySem.F.slot_zip_next
abbrev dO:=@Int.le_of_lt
abbrev pX:=@Int.le_refl
abbrev eN:=@Int.le_trans
abbrev rZ:=@Int.lt_of_lt_of_le
abbrev nO:=@Int.mul_comm
abbrev yZ:=@Int.mul_ediv_cancel_left
abbrev pY:=@Int.mul_le_mul_of_nonneg_left
abbrev y_:=@Int.mul_le_mul_of_nonneg_right
abbrev gR:=@Int.ne_of_gt
abbrev u_:=@PyProof.Rows.KeyOrd.kle_of_klt
abbrev pZ:=@PyProof.Rows.KeyOrd.kle_refl
abbrev p5:=@PyProof.Rows.KeyOrd.kle_trans
abbrev za:=@List.eraseIdx_eq_take_drop_succ
abbrev CY:=@List.filterMap_cons
abbrev CZ:=@List.getElem?_cons_succ
abbrev bP:=@List.getElem?_eq_some_iff
abbrev zb:=@List.getElem?_replicate
abbrev C0:=@List.getElem?_zipIdx
abbrev lJ:=@List.lt_irrefl
abbrev vc:=@List.lt_trans
abbrev C2:=@List.map_eq_nil_iff
abbrev zc:=@List.take_of_length_le
abbrev mP:=@PySem.Obj.data_mapFields
abbrev C3:=@PySem.Obj.isFreed_of_fields
abbrev gS:=@PySem.boot_len
abbrev nP:=@PySem.mem_of_lookup
abbrev vd:=@Rat.div_def
abbrev gU:=@Rat.intCast_mul
abbrev mQ:=@Rat.mul_pos
abbrev r8:=@Rat.one_mul
abbrev gp:=@List.all_eq_true
abbrev gE:=@Bool.and_eq_true
abbrev p8:=@List.any_cons
abbrev nQ:=@List.any_eq_true
abbrev nR:=@List.append_assoc
abbrev ko:=@List.append_nil
abbrev kr:=@beq_iff_eq
abbrev nS:=@bne_self_eq_false
abbrev p9:=@PyProof.Rows.boot_all
abbrev r9:=@PyProof.Rows.boot_dict
abbrev lK:=@PyProof.Rows.boot_list
abbrev nU:=@PyProof.Rows.boot_tuple
abbrev mR:=@PySem.builtinLookup_eq_fast
abbrev jq:=@PySem.call_meets
abbrev nV:=@PySem.F.called_set
abbrev i9:=@PySem.codeAny_builtin
abbrev C5:=@PySem.codeAny_call_builtin
abbrev p_:=@PySem.codeAny_mono
abbrev cB:=@congrArg
abbrev fh:=@decide_eq_false
abbrev dc:=@decide_eq_true
abbrev qa:=@decide_eq_true_eq
abbrev nW:=@List.drop_eq_getElem_cons
abbrev ve:=@List.drop_eq_nil_of_le
abbrev r_:=@Int.ediv_le_self
abbrev vf:=@Int.emod_lt_of_pos
abbrev vg:=@Int.emod_nonneg
abbrev sd:=@LawfulBEq.eq_of_beq
abbrev sf:=@List.ext_getElem?
abbrev jM:=@Bool.false_eq_true
abbrev lM:=@List.find?_cons
abbrev qc:=@List.find?_eq_none
abbrev qd:=@List.find?_some
abbrev zd:=@PySem.fits_of_scanBound
abbrev sj:=@List.flatMap_append
abbrev sq:=@List.flatMap_cons
abbrev sr:=@List.flatten_cons
abbrev nX:=@List.foldl_append
abbrev gF:=@List.foldl_cons
abbrev bu:=@PySem.Heap.get?_push_of_some
abbrev cy:=@PySem.Heap.get?_push_size
abbrev qe:=@PySem.Heap.get?_update_other
abbrev ku:=@PySem.Heap.get?_update_self
abbrev nY:=@Array.getD_eq_getD_getElem?
abbrev fZ:=@List.getD_eq_getElem?_getD
abbrev gW:=@List.getElem?_append_left
abbrev qf:=@List.getElem?_append_right
abbrev a_:=@List.getElem?_eq_getElem
abbrev nZ:=@List.getElem?_eq_none
abbrev bM:=@List.getElem?_map
abbrev fH:=@List.getElem?_set_ne
abbrev fy:=@List.getElem?_set_self
abbrev nG:=@Array.getElem?_toList
abbrev rH:=@List.getElem?_zip_eq_some
abbrev lu:=@List.getElem_mem
abbrev jm:=@List.getElem_of_mem
abbrev gz:=@if_false
abbrev ay:=@if_neg
abbrev aC:=@if_pos
abbrev ly:=@if_true
abbrev pQ:=@Option.isSome_iff_exists
abbrev i7:=@PySem.W.kia_one
abbrev lz:=@Nat.le_add_right
abbrev rJ:=@Nat.le_max_left
abbrev rK:=@Nat.le_max_right
abbrev j_:=@Nat.le_of_lt
abbrev aJ:=@Nat.le_refl
abbrev nH:=@Nat.le_succ
abbrev dF:=@Nat.le_trans
abbrev dZ:=@List.length_append
abbrev iw:=@List.length_cons
abbrev uW:=@List.length_drop
abbrev aQ:=@List.length_map
abbrev uX:=@List.length_pos_iff
abbrev rL:=@List.length_range
abbrev nJ:=@List.length_take
abbrev gA:=@Array.length_toList
abbrev yL:=@List.length_zipIdx
abbrev fR:=@List.lookup_cons
abbrev fJ:=@Nat.lt_irrefl
abbrev rM:=@Int.lt_of_le_of_lt
abbrev cY:=@Nat.lt_of_lt_of_le
abbrev aW:=@PySem.Heap.lt_size
abbrev gm:=@Nat.lt_succ_of_lt
abbrev kc:=@Nat.lt_succ_self
abbrev di:=@List.map_append
abbrev rN:=@List.map_congr_left
abbrev cJ:=@List.map_cons
abbrev bH:=@List.map_map
abbrev cu:=@List.mem_append
abbrev mK:=@List.mem_append_left
abbrev iy:=@List.mem_append_right
abbrev bx:=@List.mem_cons
abbrev bz:=@List.mem_cons_of_mem
abbrev bA:=@List.mem_cons_self
abbrev uY:=@List.mem_filterMap
abbrev fX:=@List.mem_flatMap
abbrev aS:=@List.mem_map
abbrev dN:=@List.mem_map_of_mem
abbrev jJ:=@List.mem_of_find?_eq_some
abbrev cS:=@List.mem_of_getElem?
abbrev uZ:=@List.mem_of_mem_drop
abbrev rO:=@List.mem_of_mem_take
abbrev bS:=@List.mem_singleton
abbrev rP:=@List.mem_zipIdx_iff_getElem?
abbrev lC:=@Int.mul_assoc
abbrev dH:=@Int.mul_le_mul
abbrev rQ:=@Int.mul_nonneg
abbrev cT:=@Int.mul_pos
abbrev u0:=@Int.natCast_pow
abbrev kg:=@Nat.ne_of_gt
abbrev bJ:=@Nat.ne_of_lt
abbrev d_:=@List.nil_append
abbrev nK:=@List.nodup_append
abbrev lD:=@List.nodup_cons
abbrev gB:=@List.not_mem_nil
abbrev fY:=@of_decide_eq_true
abbrev gC:=@or_false
abbrev i8:=@List.pairwise_cons
abbrev gQ:=@PySem.F.plainAttrs_list
abbrev kh:=@PySem.plainId_quiet
abbrev u5:=@PySem.F.plain_extend_loop
abbrev yP:=@PySem.F.plain_list_iadd
abbrev fK:=@Nat.pow_le_pow_right
abbrev mL:=@Int.pow_nonneg
abbrev jn:=@Int.pow_succ
abbrev lE:=@List.replicate_succ
abbrev yQ:=@List.set_append_left
abbrev lG:=@PySem.sizeLine_eq
abbrev u6:=@Array.size_append
abbrev fB:=@PySem.Heap.size_push
abbrev pR:=@PyProof.Rows.size_push'
abbrev bT:=@List.size_toArray
abbrev pS:=@PySem.Heap.size_update
abbrev yR:=@PySem.F.slot_int_rmul
abbrev pT:=@PySem.F.slot_list_extend
abbrev yS:=@Array.toArray_toList
abbrev rR:=@Int.toNat_natCast
abbrev yT:=@PySem.tupleKind_room_in1
abbrev mO:=@PySem.typeLookup_type
abbrev rS:=@PySem.F.type_list_extend
abbrev lH:=@PySem.wpAny_Call_Name_kw
abbrev nL:=@PySem.wpAny_attempt
abbrev ah:=@PySem.wpAny_bind
abbrev nM:=@PySem.wpAny_callSpecial?_slot
abbrev jo:=@PySem.wpAny_call_entry
abbrev u7:=@PySem.wpAny_execs_nil
abbrev ki:=@PySem.wpAny_field
abbrev yV:=@PySem.wpAny_fieldsOf
abbrev gn:=@PySem.wpAny_holding
abbrev yW:=@PySem.wpAny_isInstance
abbrev rT:=@PySem.wpAny_loadPart'
abbrev jK:=@PySem.wpAny_mono
abbrev yX:=@PySem.wpAny_newList
abbrev gD:=@PySem.wpAny_newObj_type
abbrev CV:=@PySem.wpAny_nextOf_list_item
abbrev pV:=@PySem.wpAny_passesOwn
abbrev aF:=@PySem.wpAny_pure
abbrev pW:=@PySem.wpAny_pyIter_list
abbrev kj:=@PySem.wpAny_rule
abbrev rV:=@PySem.wpAny_seqItems
abbrev u9:=@PySem.wpAny_setEntries_of
abbrev rW:=@PySem.wpAny_setField
abbrev rX:=@PySem.wpAny_setState_of
abbrev yY:=@PySem.wpAny_standAt
abbrev nN:=@PySem.wpAny_truthy_bool
abbrev lI:=@PySem.wpAny_typeOf
abbrev rY:=@PySem.wpAny_updateSeq
abbrev cA:=@Nat.zero_le
section
open PySem
abbrev Ap:=List Str
abbrev BM:=List Value
abbrev B2:=List Nat
abbrev Dx:=List Expr
abbrev DD:=List Int
abbrev D1:=List Addr
abbrev Fh:=List Env
abbrev Fm:=List PyData
abbrev Fn:=List Bool
abbrev Fs:=List Rat
abbrev Fu:=List Stmt
abbrev FC:=List Keyword
abbrev aA:=Str->Option Value
abbrev aR:=Value->Shared->Prop
abbrev bh:=List (Addr×Obj)
end
section
open PySem PySem.Spec PyProof.Rows
namespace L2
abbrev Key:=Sum Int Str
abbrev _root_.Ee:=List Key
def kK:Key->Value->Bool
 |.inl k,v=>Value.isInt k v
 |.inr x,v=>Value.isStrOf x v
def Ry(w:World):Key->Int
 |.inl k=>hashInt k
 |.inr x=>hashStr w x
theorem jh:∀{k:Key} {v:Value},kK k v=true->(∃i t,k=Sum.inl i/\v=Value.int i t)\/(∃x t,k=Sum.inr x/\v=Value.str x t)
 |.inl i,v,h=>by
  obtain⟨t,e⟩:=Value.isInt_shape (k:=i) (v:=v) h;exact .inl ⟨i,t,rfl,e⟩
 |.inr x,v,h=>by
  obtain⟨t,e⟩:=Value.isStrOf_shape (x:=x) (v:=v) h;exact .inr ⟨x,t,rfl,e⟩
theorem Rz(i:Int)(t:Tok):kK (.inl i) (.int i t)=true:=by simp[kK,Value.isInt]
theorem RB(x:Str)(t:Tok):kK (.inr x) (.str x t)=true:=by simp[kK,Value.isStrOf]
theorem RC(a b:Int):decide ((Sum.inl a:Key)=Sum.inl b)=(a==b):=by
 by_cases e:a=b
 .subst e;simp
 .have h:¬(Sum.inl a:Key)=Sum.inl b:=λq=>e (Sum.inl.inj q)
  rw[fh h];exact(beq_eq_false_iff_ne.mpr e).symm
theorem RI(a b:Str):decide ((Sum.inr a:Key)=Sum.inr b)=decide (a=b):=by
 by_cases e:a=b
 .subst e;simp
 .have h:¬(Sum.inr a:Key)=Sum.inr b:=λq=>e (Sum.inr.inj q)
  rw[fh h,fh e]
theorem RD(a:Int)(b:Str):decide ((Sum.inl a:Key)=Sum.inr b)=false:=fh (λq=>nomatch q)
theorem RH(a:Str)(b:Int):decide ((Sum.inr a:Key)=Sum.inl b)=false:=fh (λq=>nomatch q)
noncomputable def dD(prog:Program)(w:World):PySem.KeyKind prog w Key where
 is:=kK
 hash:=Ry w
 inj:=λv a b ha hb=>by
  rcases jh ha with⟨i,t,rfl,rfl⟩|⟨x,t,rfl,rfl⟩
  .rcases jh hb with⟨j,u,rfl,e⟩|⟨y,u,rfl,e⟩
   .injection e with e1 _;rw[e1]
   .exact nomatch e
  .rcases jh hb with⟨j,u,rfl,e⟩|⟨y,u,rfl,e⟩
   .exact nomatch e
   .injection e with e1 _;rw[e1]
 byValue:=λk v h=>by
  rcases jh h with⟨i,t,rfl,rfl⟩|⟨x,t,rfl,rfl⟩<;>rfl
 pyHash:=λhv h=>by
  rcases jh hv with⟨i,t,rfl,rfl⟩|⟨x,t,rfl,rfl⟩
  .exact wpAny_pyHash_int h
  .exact wpAny_pyHash_str h
 eqBool:=λhu hv h=>by
  rcases jh hu with⟨i,t,rfl,rfl⟩|⟨x,t,rfl,rfl⟩
  .rcases jh hv with⟨j,u,rfl,rfl⟩|⟨y,u,rfl,rfl⟩
   .rw[RC] at h;exact wpAny_eqBool_int h
   .rw[RD] at h;exact SeqAt.EqAt.int_str i t y u _ _ _ _ h
  .rcases jh hv with⟨j,u,rfl,rfl⟩|⟨y,u,rfl,rfl⟩
   .rw[RH] at h;exact SeqAt.EqAt.str_int x t j u _ _ _ _ h
   .rw[RI] at h;exact wpAny_eqBool_str h
 «strs»:=λk x t v h=>by
  rcases jh h with⟨i,u,rfl,e⟩|⟨y,u,rfl,e⟩
  .exact nomatch e
  .injection e with e1 _
   subst e1
   cases v<;>rfl
theorem SM(prog:Program)(w:World)(i:Int)(t:Tok):(dD prog w).is (.inl i) (.int i t)=true:=Rz i t
theorem SN(prog:Program)(w:World)(x:Str)(t:Tok):(dD prog w).is (.inr x) (.str x t)=true:=RB x t
inductive V where
 |aG|bl (b:Bool)|int (i:Int)|str (x:Str)|jV (b:Array UInt8)|qJ (b:UInt64)|ref (a:Addr)|ty (n:String)
 deriving DecidableEq
abbrev _root_.Bn:=List V
noncomputable def RelV:V->Value->Prop
 |.aG,u=>u=Value.none
 |.bl b,u=>u=Value.bool b
 |.int i,u=>∃t,u=Value.int i t
 |.str x,u=>∃t,u=Value.str x t
 |.jV b,u=>∃t,u=Value.bytes b t
 |.qJ b,u=>∃t,u=Value.float b t
 |.ref a,u=>u=Value.ref a
 |.ty n,u=>u=Value.type n
abbrev Vals:Bn->BM->Prop:=Paired RelV
theorem Vals.length{xs:Bn}{a:BM}(r:Vals xs a):xs.length=a.length:=Paired.length r
theorem Vals.get:∀{xs:Bn} {a:BM} {i:Nat} {x:V},Vals xs a->xs[i]?=some x->∃u,a[i]?=some u/\RelV x u
 |_,_,_,_,.nil,e=>by simp at e
 |_,_,0,_,.cons r _,e=>by simp at e;subst e;exact⟨_,rfl,r⟩
 |_,_,i+1,x,.cons _ t,e=>by
  obtain⟨u,h1,h2⟩:=Vals.get (i:=i) (x:=x) t (by simpa using e);exact⟨u,by simpa using h1,h2⟩
theorem Vals.append:∀{xs ys:Bn} {a ws:BM},Vals xs a->Vals ys ws->Vals (xs++ys) (a++ws)
 |_,_,_,_,.nil,s=>s
 |_,_,_,_,.cons r t,s=>.cons r (Vals.append t s)
theorem Vals.take:∀{xs:Bn} {a:BM} (n:Nat),Vals xs a->Vals (xs.take n) (a.take n)
 |_,_,0,_=>.nil
 |_,_,_+1,.nil=>.nil
 |_,_,n+1,.cons r t=>.cons r (Vals.take n t)
theorem Vals.drop:∀{xs:Bn} {a:BM} (n:Nat),Vals xs a->Vals (xs.drop n) (a.drop n)
 |_,_,0,r=>r
 |_,_,_+1,.nil=>.nil
 |_,_,n+1,.cons _ t=>Vals.drop n t
def jS:Option V->Option Value->Prop
 |some v,some u=>RelV v u
 |none,none=>True
 |_,_=>False
def KV{κ:Type}:List (κ×V)->List (κ×Value)->Prop:=Paired λ(p:κ×V) (q:κ×Value)=>p.1=q.1/\RelV p.2 q.2
def kV:Key->V
 |.inl i=>.int i
 |.inr x=>.str x
def lS(h:Heap)(a:Addr)(items:Array Value):Prop:=∃n,h.get? a=some {cls:=.type "tuple",data:=.seq items n}
theorem lS.is{h:Heap}{a:Addr}{items:Array Value}(x:lS h a items):IsTup h a items:=let ⟨n,e⟩:=x;⟨_,e,rfl,n,rfl⟩
theorem lS.new(h:Heap)(items:Array Value):lS (h.push {cls:=.type "tuple",data:=.seq items}) h.objs.size items:=⟨0,cy _ rfl⟩
inductive HO where
 |lst (xs:Bn)
 |tup (xs:Bn)
 |dK (kvs:List (Key×V))|dT (kvs:List (Ee×V))
 |set (S:Int->Bool) (n:Nat)
 |ins (C dx:Addr) (fs:List (Str×V))
 |own (x:Addr)
 |xd (fs:List (Str×V))
 |met (f x:Addr)
 |fF (lo hi:Int)
 |bZ (o:Obj) (u:HO)
 |jl (ps:Array Value)
 |ext (φ:Heap->Prop)
abbrev Hp:=Addr->Option HO
def ax(H:Hp)(a:Addr)(o:HO):Hp:=λb=>if b=a then some o else H b
theorem d9{H:Hp}{a:Addr}{o:HO}:ax H a o a=some o:=by unfold ax;rw[aC rfl]
theorem aX{H:Hp}{a b:Addr}{o:HO}(h:b≠a):ax H a o b=H b:=by unfold ax;rw[ay h]
theorem S6{H:Hp}{a b:Addr}{o u:HO}(h:H a=some o)(h':H b=some u)(d:o≠u):a≠b:=by
 intro e;subst e;rw[h] at h';exact d (Option.some.inj h')
theorem c_{H:Hp}{a b:Addr}{o:HO}(h:H a=some o)(h':H b=none):a≠b:=by
 intro e;subst e;rw[h] at h';cases h'
section
variable(P:Program)(w:World)
noncomputable def cg(H:Hp)(h:Heap)(a:Addr):HO->Prop
 | .lst xs=>xs.length<=sizeLine/\∃(its:BM) (n:Nat),Vals xs its/\h.get? a=some {cls:= .type "list",data:= .seq its.toArray n}
 | .tup xs=>xs.length<=sizeLine/\∃its:BM,Vals xs its/\lS h a its.toArray
 | .dK kvs=>kvs.length<=sizeLine/\(a==sysModules)=false/\∃vs,KV kvs vs/\h.DictOf (dD P w) a vs
 | .dT kvs=>kvs.length<=sizeLine/\(a==sysModules)=false/\∃xs:List (Ee×Addr×Value),
  Paired (λ(p:Ee×V) (q:Ee×Addr×Value)=>p.1=q.1/\H q.2.1=some (.tup (p.1.map kV))/\RelV p.2 q.2.2) kvs xs/\
  ∃o es ep,h.get? a=some o/\o.ExactDict/\o.data= .dict es ep/\es.toList=xs.map (entryOfKey (tupleKind (dD P w)))/\(xs.map (·.1)).Nodup
 | .set S n=>h.SetOf (intKind P w) a S n
 | .ins C dx fs=>H dx=some (.own a)/\fs.length<=1000/\dx≠a/\h.get? a=some (instObj C dx)/\
  ∃mA,h.Ns1 dx mA/\(∀f,jS (fs.lookup f) (mA f))/\PySem.Within mA (fs.map (·.1))
 | .own _=>∃o,h.get? a=some o
 | .xd fs=>∃mA,h.Ns1 a mA/\∀f,jS (fs.lookup f) (mA f)
 | .fF lo hi=>∃t u v,h.get? a=some {cls:= .type "range",data:= .fields #[.int lo t,.int hi u,.int 1 v]}
 | .bZ o u=>h.get? a=some o/\cg H h a u
 | .jl ps=>h.get? a=some {cls:= .none,data:= .fields ps}
 | .met f x=>h.get? a=some (methodObj (.ref f) (.ref x))
 | .ext φ=>φ h/\(∃o,h.get? a=some o)/\∀h1 h2:Heap,φ h1->(∀o,h1.get? a=some o->h2.get? a=some o)->φ h2
def cZ(H:Hp)(h:Heap):Prop:=∀a o,H a=some o->cg P w H h a o
end
section
variable{P:Program}{w:World}{H H':Hp}{h h':Heap}{a:Addr}{o:HO}
theorem cg.lt(x:cg P w H h a o):a<h.objs.size:=by
 cases o with
 |lst xs=>obtain⟨_,_,_,_,e⟩:=x;exact aW e
 |tup xs=>obtain⟨_,_,_,p⟩:=x;exact p.is.lt
 |dK kvs=>obtain⟨_,_,_,_,o,_,_,e,_⟩:=x;exact aW e
 |dT kvs=>obtain⟨_,_,_,_,o,_,_,e,_⟩:=x;exact aW e
 |set S n=>obtain⟨o,_,_,_,e,_⟩:=x;exact aW e
 |ins C dx fs=>obtain⟨_,_,_,e,_⟩:=x;exact aW e
 |own y=>obtain⟨_,e⟩:=x;exact aW e
 |xd fs=>obtain⟨_,⟨_,_,_,e,_⟩,_⟩:=x;exact aW e
 |fF lo hi=>obtain⟨_,_,_,e⟩:=x;exact aW e
 |bZ b u=>obtain⟨e,_⟩:=x;exact aW e
 |jl ps=>exact aW (show h.get? a=some _ from x)
 |met f y=>exact aW (show h.get? a=some _ from x)
 |ext c=>obtain⟨_,⟨_,e⟩,_⟩:=x;exact aW e
theorem Paired.kO{α β:Type}{F G:α->β->Prop}:∀{c:List α} {d:List β},Paired F c d->(∀a b,F a b->G a b)->Paired G c d
 |_,_,.nil,_=>.nil
 |_,_,.cons r t,f=>.cons (f _ _ r) (Paired.kO t f)
theorem cg.stay(x:cg P w H h a o)(k:∀b u,(b=a\/H b=some (.own a))->h.get? b=some u->h'.get? b=some u)
  (l:∀b,H b=some (.own a)->H' b=some (.own a))(m:∀b xs,H b=some (.tup xs)->H' b=some (.tup xs)):cg P w H' h' a o:=by
 induction o with
 |lst xs=>obtain⟨z,its,n,r,e⟩:=x;exact⟨z,its,n,r,k _ _ (.inl rfl) e⟩
 |tup xs=>obtain⟨z,its,r,n,e⟩:=x;exact⟨z,its,r,n,k _ _ (.inl rfl) e⟩
 |dK kvs=>obtain⟨z,y,vs,r,g,es,ep,e,c⟩:=x;exact⟨z,y,vs,r,g,es,ep,k _ _ (.inl rfl) e,c⟩
 |dT kvs=>
  obtain⟨z,y,xs,r,g,es,ep,e,c⟩:=x;exact⟨z,y,xs,Paired.kO r λp q z=>⟨z.1,m _ _ z.2.1,z.2.2⟩,g,es,ep,k _ _ (.inl rfl) e,c⟩
 |set S n=>obtain⟨g,es,ep,t,e,c⟩:=x;exact⟨g,es,ep,t,k _ _ (.inl rfl) e,c⟩
 |ins C dx fs=>
  obtain⟨d,z,ne,e,i,⟨j,es,ep,s,c⟩,r⟩:=x;exact⟨l _ d,z,ne,k _ _ (.inl rfl) e,i,⟨j,es,ep,k _ _ (.inr d) s,c⟩,r⟩
 |own y=>obtain⟨g,e⟩:=x;exact⟨g,k _ _ (.inl rfl) e⟩
 |xd fs=>obtain⟨i,⟨j,es,ep,e,c⟩,r⟩:=x;exact⟨i,⟨j,es,ep,k _ _ (.inl rfl) e,c⟩,r⟩
 |fF lo hi=>obtain⟨t,u,v,e⟩:=x;exact⟨t,u,v,k _ _ (.inl rfl) e⟩
 |bZ g u A=>obtain⟨e,q⟩:=x;exact⟨k _ _ (.inl rfl) e,A q⟩
 |jl ps=>
  have e:h.get? a=some {cls:=.none,data:=.fields ps}:=x;show h'.get? a=some {cls:=.none,data:=.fields ps};exact k a _ (.inl rfl) e
 |met f y=>
  have e:h.get? a=some (methodObj (.ref f) (.ref y)):=x;show h'.get? a=some (methodObj (.ref f) (.ref y));exact k a _ (.inl rfl) e
 |ext B=>obtain⟨p,⟨o,e⟩,st⟩:=x;exact⟨st _ _ p λo q=>k _ _ (.inl rfl) q,⟨o,k _ _ (.inl rfl) e⟩,st⟩
theorem cZ.lt(x:cZ P w H h)(e:H a=some o):a<h.objs.size:=(x a o e).lt
theorem cZ.fresh(x:cZ P w H h)(e:h.objs.size<=a):H a=none:=by
 cases q:H a with
 |none=>rfl
 |some u=>exact absurd (cY (x.lt q) e) (fJ _)
theorem cZ.kept(x:cZ P w H h)(k:∀b u,h.get? b=some u->h'.get? b=some u):cZ P w H h':=λa o e=>
 (x a o e).stay (λb u _ q=>k b u q) (λ_ q=>q) λ_ _ q=>q
theorem cZ.laid(x:cZ P w H h)(k:∀b u,h.get? b=some u->h'.get? b=some u)(g:h.objs.size<=a)(new:cg P w (ax H a o) h' a o):cZ P w (ax H a o) h':=λb u e=>by
 have d:=x.fresh g;by_cases f:b=a
 .subst f;rw[d9] at e;cases e;exact new
 .rw[aX f] at e
  exact(x b u e).stay (λc v _ q=>k c v q) (λc q=>by rw[aX (c_ q d)];exact q) λc xs q=>by rw[aX (c_ q d)];exact q
end
def Rd(H:Hp)(a:Addr)(u:HO):Prop:=H a=some u\/∃o,H a=some (.bZ o u)
theorem Rd.ok{P:Program}{w:World}{H:Hp}{h:Heap}{a:Addr}{u:HO}(r:Rd H a u)(x:cZ P w H h):cg P w H h a u:=by
 rcases r with r|⟨o,r⟩
 .exact x a u r
 .obtain⟨_,q⟩:=x a _ r
  exact q
noncomputable def sE:Option HO->Prop
 |some (.lst _)=>True
 |some (.dK _)=>True
 |some (.dT _)=>True
 |some (.set _ _)=>True
 |some (.ins _ _ _)=>True
 |some (.ext _)=>True
 |_=>False
section
variable{P:Program}{w:World}{H:Hp}{h h':Heap}{x e:Addr}{o':HO}
theorem cZ.write(ok:cZ P w H h)(g:sE (H x))(l:e=x\/H e=some (.own x))(k:∀b u,b≠e->h.get? b=some u->h'.get? b=some u)(j:∃u,h'.get? e=some u)
  (new:cg P w (ax H x o') h' x o'):cZ P w (ax H x o') h':=λb u q=>by
 have d:∀c y,H c=some (.own y)->c≠x:=λc y r z=>by subst z;rw[r] at g;exact g
 have f:∀c xs,H c=some (.tup xs)->c≠x:=λc xs r z=>by subst z;rw[r] at g;exact g
 by_cases i:b=x
 .subst i;rw[d9] at q;cases q;exact new
 .rw[aX i] at q
  by_cases a:b=e
  .have m:H b=some (.own x):=by
    rcases l with z|z
    .exact absurd (a.trans z) i
    .rw[a];exact z
   rw[q] at m;cases m;obtain⟨v,n⟩:=j;exact⟨v,by rw[a];exact n⟩
  .refine(ok b u q).stay (λc v hc r=>k c v ?_ r) (λc r=>by rw[aX (d c b r)];exact r) λc xs r=>by rw[aX (f c xs r)];exact r
   rcases hc with rfl|hc
   .exact a
   .rintro rfl
    rcases l with z|z
    .exact d c b hc z
    .rw[hc] at z;cases z;exact i rfl
end
structure Un(fs ex:D1)(H H':Hp)(h h':Heap):Prop where
 keep:∀b o,h.get? b=some o->H b=none->b∉fs->b∉ex->h'.get? b=some o
 slot:∀b o,h.get? b=some o->H b=none->b∈fs->b∉ex->∃sl,h'.get? b=some {o with slots:=sl}
 free:∀b o,h.get? b=some o->H b=none->b∉ex->H' b=none
 there:∀b o,h.get? b=some o->b∉ex->∃o',h'.get? b=some o'
 tups:∀b xs,H b=some (.tup xs)->H' b=some (.tup xs)
 fM:∀b o u,H b=some (.bZ o u)->H' b=some (.bZ o u)
 gk:∀b ps,H b=some (.jl ps)->∃more,H' b=some (.jl (ps++more))
section
variable{fs fs' ex ex':D1}{H H1 H2:Hp}{h h1 h2 h':Heap}{a x e:Addr}{o:HO}
theorem Un.any(u:Un fs ex H H1 h h1){b:Addr}{a:Obj}(q:h.get? b=some a)(n:H b=none)(c:b∉ex):∃e,h1.get? b=some {a with slots:=e}:=by
 by_cases d:b∈fs
 .exact u.slot b a q n d c
 .exact⟨a.slots,u.keep b a q n d c⟩
theorem Un.kept(k:∀b u,h.get? b=some u->h'.get? b=some u):Un fs ex H H h h':=
 ⟨λb a q _ _ _=>k b a q,λb a q _ _ _=>⟨a.slots,k b a q⟩,λ_ _ _ n _=>n,λb a q _=>⟨a,k b a q⟩,λ_ _ q=>q,λ_ _ _ q=>q,λ_ ps q=>⟨#[],by rw[q];simp⟩⟩
theorem Un.refl:Un fs ex H H h h:=Un.kept λ_ _ q=>q
theorem Un.laid(k:∀b u,h.get? b=some u->h'.get? b=some u)(d:h.objs.size<=a)(c:H a=none):Un fs ex H (ax H a o) h h' where
 keep:=λb u q _ _ _=>k b u q
 slot:=λb u q _ _ _=>⟨u.slots,k b u q⟩
 free:=λb u q n _=>by rw[aX (bJ (cY (aW q) d))];exact n
 there:=λb u q _=>⟨u,k b u q⟩
 tups:=λb xs q=>by rw[aX (c_ q c)];exact q
 fM:=λb u xs q=>by rw[aX (c_ q c)];exact q
 gk:=λb ps q=>⟨#[],by rw[aX (c_ q c),q];simp⟩
theorem Un.write(c:sE (H x))(j:e=x\/H e=some (.own x))(k:∀b u,b≠e->h.get? b=some u->h'.get? b=some u)(d:∃u,h'.get? e=some u):Un fs ex H (ax H x o) h h':=by
 have g:∀b,H b=none->b≠x:=λb n z=>by subst z;rw[n] at c;exact c
 have i:∀b,H b=none->b≠e:=λb n z=>by
  subst z;rcases j with r|r
  .exact g b n r
  .rw[n] at r;cases r
 have f:∀b u,H b=some u->¬sE (some u)->b≠x:=λb u q nm z=>by subst z;rw[q] at c;exact nm c
 refine⟨λb u q n _ _=>k b u (i b n) q,λb u q n _ _=>⟨u.slots,k b u (i b n) q⟩,λb u q n _=>by rw[aX (g b n)];exact n,λb u q _=>?_,
  λb xs q=>by rw[aX (f b _ q λz=>z)];exact q,λb u xs q=>by rw[aX (f b _ q λz=>z)];exact q,λb ps q=>⟨#[],by rw[aX (f b _ q λz=>z),q];simp⟩⟩
 by_cases a:b=e
 .subst a;exact d
 .exact⟨u,k b u a q⟩
end
def yz(h:Heap)(H:Hp):D1:=(range h.objs.size).filter λa=>(H a).isSome
def lZ(h:Heap)(H:Hp):Heap:=hideAll h (yz h H)
theorem QI(h:Heap)(H:Hp):(lZ h H).objs.size=h.objs.size:=PySem.W.hideAll_size _ _
theorem QH{h:Heap}{H:Hp}{b:Addr}{o:Obj}(e:h.get? b=some o)(n:H b=none):(lZ h H).get? b=some o:=
 hideAll_get _ e λa=>by
  have q:(H b).isSome=true:=(mem_filter.mp a).2;rw[n] at q;simp at q
theorem Tp{h:Heap}{H:Hp}{b:Addr}{o:Obj}(e:(lZ h H).get? b=some o):h.get? b=some o/\H b=none:=by
 have a:h.get? b=some o:=of_hideAll (yz h H) e;refine⟨a,?_⟩;cases q:H b with
 |none=>rfl
 |some x=>
  have c:b∈yz h H:=mem_filter.mpr ⟨mem_range.mpr (aW a),by simp[q]⟩;have z:(lZ h H).get? b=none:=PySem.W.hideAll_none (yz h H) c;rw[z] at e;cases e
structure Mod(K:Frag)(mg:aA)(base:Heap):Prop where
 o7:K.In base
 glob:base.Ns mainGlobals mg
 blt:∃mb,base.Ns builtinsNs mb/\∀x:Str,x≠"__name__"->mb x=bootBuiltins x
 nolimit:base.NoLimit
structure Cx where
 prog:Program
 w:World
 K:Frag
 mg:aA
 base:Heap
 A:Around
 N:Ap
 s₀:Shared
 H₀:Hp
 env:Env
 outer:Fh
 stack:Fh
 ex:D1
 fn:Str->Bool
 calm:Bool
 pn:bh
 xe:aR
def frs(l:Fh):D1:=l.filterMap (·.frame)
abbrev Cx.fs(X:Cx):D1:=frs X.outer
def qu(sc:Scope)(x:Str):Prop:=sc.names.lookup x=some .local\/sc.names.lookup x=some .cell\/sc.names.lookup x=some .free
def Loc(sc:Scope)(x:Str):Prop:=sc.names.lookup x=some .local\/sc.names.lookup x=some .cell
def Look(env:Env)(h:Heap)(m:aA)(x:Str)(u:Value):Prop:=
 (env.kindOf x=some .local/\m x=some u)\/((env.kindOf x=some .cell\/env.kindOf x=some .free)/\∃c,env.cells.lookup x=some c/\h.IsCell c (some u))
structure Cx.Ok(X:Cx):Prop where
 mod:Mod X.K X.mg X.base
 kind:X.env.scope.kind= .function
 glob:X.env.globals=mainGlobals
 blt:X.env.builtins=builtinsNs
 above:X.s₀.heap.objs.size<=X.env.locals
 inj:∀x y c,X.env.cells.lookup x=some c->X.env.cells.lookup y=some c->x=y
 has:∀x,(X.env.kindOf x=some .cell\/X.env.kindOf x=some .free)->∃c,X.env.cells.lookup x=some c
 oz:∀x c,X.fn x=true->X.env.cells.lookup x=some c->X.s₀.heap.objs.size<=c
 hd:X.calm=true->X.A.handled=none
 frames:X.A.frames=some X.stack
 stk:X.stack=X.outer\/(X.stack=X.env::X.outer/\X.env.frame=some X.env.locals)
 v8:∀b∈X.ex,b≠X.env.locals/\∀x c,X.env.cells.lookup x=some c->c≠b
 bs:∀b o,X.base.get? b=some o->X.s₀.heap.get? b=some o/\X.H₀ b=none
 jU:X.base.objs.size<=X.s₀.heap.objs.size
 pC:∀b o,X.base.get? b=some o->b∉X.ex
 qH:∀b∈X.ex,b∉X.fs
 iS:X.s₀.heap.FunFrames X.base X.outer
 kJ:∀b∈X.fs,X.H₀ b=none
structure Inv(X:Cx)(ae:bh)(σ:List (Option V))(H:Hp)(s:Shared):Prop where
 ok:X.Ok
 os:s.os=X.s₀.os
 bare:AllBare s.gens
 base:Un X.fs X.ex X.H₀ H X.s₀.heap s.heap
 loc:∃m,s.heap.Ns X.env.locals m/\∀(i:Nat) (x:Str) (v:V),X.N[i]? =some x->σ[i]? =some (some v)->qu X.env.scope x->∃u,RelV v u/\Look X.env s.heap m x u
 cell:∀x c,X.env.cells.lookup x=some c->∃v,s.heap.IsCell c v
 free:H X.env.locals=none
 gv:∀x c,X.env.cells.lookup x=some c->H c=none
 pin:∀p∈X.pn++ae,s.heap.get? p.1=some p.2/\H p.1=none/\p.1≠X.env.locals/\p.1∉X.fs/\∀v,p.2.data≠ .cell v
 ar:cZ X.prog X.w H s.heap
 len:σ.length=X.N.length
variable{X:Cx}
section
variable{ae:bh}{σ:List (Option V)}{H H':Hp}{s:Shared}{h':Heap}
theorem Cx.Ok.pF(ok:X.Ok){b:Addr}{o:Obj}(e:X.base.get? b=some o):b∉X.fs:=λa=>by
 have:=(ok.iS.mem a).1;rw[e] at this;cases this
theorem Inv.bs(I:Inv X ae σ H s):∀b o,X.base.get? b=some o->s.heap.get? b=some o/\H b=none:=λb o e=>
 ⟨I.base.keep b o (I.ok.bs b o e).1 (I.ok.bs b o e).2 (I.ok.pF e) (I.ok.pC b o e),I.base.free b o (I.ok.bs b o e).1 (I.ok.bs b o e).2 (I.ok.pC b o e)⟩
theorem Inv.bk(I:Inv X ae σ H s):∀b o,X.base.get? b=some o->s.heap.get? b=some o:=λb o e=>(I.bs b o e).1
theorem Inv.mod(I:Inv X ae σ H s):Mod X.K X.mg X.base:=I.ok.mod
theorem Inv.e_(I:Inv X ae σ H s):X.K.In s.heap:=I.ok.mod.o7.keeps I.bk
theorem Inv.lt(I:Inv X ae σ H s):X.env.locals<s.heap.objs.size:=let ⟨_,a,_⟩:=I.loc;a.lt
theorem Inv.sz(I:Inv X ae σ H s):X.s₀.heap.objs.size<=s.heap.objs.size:=dF I.ok.above (j_ I.lt)
theorem Inv.Tf(I:Inv X ae σ H s){a:Addr}(h:s.heap.objs.size<=a):a∉X.fs:=λb=>by
 obtain⟨_,o,c,_⟩:=I.ok.iS.mem b;exact absurd (cY (aW c) (dF I.sz h)) (fJ _)
theorem Inv.kH(I:Inv X ae σ H s):∀x c,X.env.cells.lookup x=some c->c≠X.env.locals:=λx c e z=>by
 obtain⟨v,o,d,hd⟩:=I.cell x c e;obtain⟨m,⟨o',es,ep,a,b,_⟩,_⟩:=I.loc;rw[z,a] at d;cases d;rw[b] at hd;cases hd
theorem Inv.iS(I:Inv X ae σ H s):s.heap.FunFrames X.base X.outer:=by
 have all:∀(l:Fh),(∀b∈frs l,b∈X.fs)->X.s₀.heap.FunFrames X.base l->s.heap.FunFrames X.base l:=by
  intro l;induction l with
  |nil=>intro _ _;trivial
  |cons env r g=>
   intro f hl;obtain⟨h,⟨L,o,a,i,j,hd⟩,k⟩:=hl;have c:L∈X.fs:=f L (by unfold frs;rw[CY,a];exact bA);obtain⟨m,e⟩:=I.base.slot L o j (I.ok.kJ L c) c λz=>I.ok.qH L z c;exact⟨h,⟨L,_,a,i,e,hd⟩,g (λb d=>f b (by unfold frs;rw[CY,a];exact bz _ d)) k⟩
 exact all X.outer (λ_ d=>d) I.ok.iS
theorem Inv.stack(I:Inv X ae σ H s):s.heap.FunFrames X.base X.stack:=by
 rcases I.ok.stk with e|⟨e,a⟩
 .rw[e];exact I.iS
 .rw[e]
  obtain⟨m,b,_⟩:=I.loc;refine .cons (by rw[I.ok.kind];decide) a b ?_ I.iS;exact Heap.get?_none_of_le (dF I.ok.jU I.ok.above)
theorem Inv.rB(I:Inv X ae σ H s):∀b∈frs X.stack,b∈X.env.locals::X.fs:=λb a=>by
 rcases I.ok.stk with e|⟨e,c⟩
 .rw[e] at a;exact bz _ a
 .rw[e] at a
  unfold frs at a;rw[CY,c] at a;exact a
theorem Inv.Ck(I:Inv X ae σ H s):∀b∈frs X.stack,H b=none:=λb hb=>by
 rcases bx.mp (I.rB b hb) with e|hb
 .rw[e];exact I.free
 .obtain⟨_,o,a,_⟩:=I.ok.iS.mem hb
  exact I.base.free b o a (I.ok.kJ b hb) λz=>I.ok.qH b z hb
theorem Inv.step{g':Array GenState}{t':Nat}{d':Drawn}{ch:D1}(I:Inv X ae σ H s)
  (f:∀b∈ch,(b∈X.ex\/X.s₀.heap.objs.size<=b)/\b≠X.env.locals/\(∀x c,X.env.cells.lookup x=some c->c≠b)/\∀p∈X.pn++ae,p.1≠b)
  (keep:∀b o,b≠X.env.locals->b∉X.fs->b∉ch->s.heap.get? b=some o->H b=none->h'.get? b=some o)
  (slot:∀b o,b≠X.env.locals->b∈X.fs->b∉ch->s.heap.get? b=some o->H b=none->∃D,h'.get? b=some {o with slots:=D})(free:∀b o,b∉ch->s.heap.get? b=some o->H b=none->H' b=none)
  (there:∀b o,b∉ch->s.heap.get? b=some o->∃o',h'.get? b=some o')
  (tups:∀b xs,H b=some (.tup xs)->H' b=some (.tup xs))(fM:∀b o u,H b=some (.bZ o u)->H' b=some (.bZ o u))(gk:∀b ps,H b=some (.jl ps)->∃A,H' b=some (.jl (ps++A)))
  (ns:∀m,s.heap.Ns X.env.locals m->h'.Ns X.env.locals m)(ar:cZ X.prog X.w H' h')(J:AllBare g'):
  Inv X ae σ H' {s with heap:=h',gens:=g',drawn:=d',toks:=t'}:=by
 have B:∀b o,X.s₀.heap.get? b=some o->b≠X.env.locals:=λb o e=>bJ (cY (aW e) I.ok.above)
 have h:∀b o,X.s₀.heap.get? b=some o->b∉X.ex->b∉ch:=λb o e a t=>by
  rcases (f b t).1 with z|z
  .exact a z
  .exact absurd (cY (aW e) z) (fJ _)
 have cellK:∀x c,X.env.cells.lookup x=some c->∀v,s.heap.IsCell c v->h'.IsCell c v:=λx c e v ⟨o,y,hd⟩=>by
  have g:c∉ch:=λz=>(f c z).2.2.1 x c e rfl
  by_cases hc:c∈X.fs
  .obtain⟨D,q⟩:=slot c o (I.kH x c e) hc g y (I.gv x c e)
   exact⟨_,q,hd⟩
  .exact⟨o,keep c o (I.kH x c e) hc g y (I.gv x c e),hd⟩
 refine⟨I.ok,I.os,J,⟨λb o e n t a=> ?_,λb o e n t a=> ?_,λb o e n a=> ?_,λb o e a=> ?_,λb xs e=>tups b xs (I.base.tups b xs e),λb o xs e=>fM b o xs (I.base.fM b o xs e),λb ps e=> ?_⟩,?_,λx c e=> ?_,?_,λx c e=> ?_,λp F=> ?_,ar,I.len⟩
 .exact keep b o (B b o e) t (h b o e a) (I.base.keep b o e n t a) (I.base.free b o e n a)
 .obtain⟨D,j⟩:=I.base.slot b o e n t a
  obtain⟨E,C⟩:=slot b _ (B b o e) t (h b o e a) j (I.base.free b o e n a)
  exact⟨E,C⟩
 .obtain⟨o',j⟩:=I.base.there b o e a
  exact free b o' (h b o e a) j (I.base.free b o e n a)
 .obtain⟨o',j⟩:=I.base.there b o e a
  exact there b o' (h b o e a) j
 .obtain⟨K,j⟩:=I.base.gk b ps e
  obtain⟨L,C⟩:=gk b _ j
  exact⟨K++L,by rw[C,Array.append_assoc]⟩
 .obtain⟨m,M,hl⟩:=I.loc
  refine⟨m,ns m M,λi x v j C N=> ?_⟩
  obtain⟨u,r,l⟩:=hl i x v j C N
  refine⟨u,r,?_⟩
  rcases l with l|⟨k,c,e,z⟩
  .exact .inl l
  .exact .inr ⟨k,c,e,cellK x c e _ z⟩
 .obtain⟨v,z⟩:=I.cell x c e
  exact⟨v,cellK x c e v z⟩
 .obtain⟨m,⟨o,_,_,y,_⟩,_⟩:=I.loc
  exact free _ o (λz=>(f _ z).2.1 rfl) y I.free
 .obtain⟨v,o,y,hd⟩:=I.cell x c e
  exact free c o (λz=>(f c z).2.2.1 x c e rfl) y (I.gv x c e)
 .obtain⟨e,n,ne,G,d⟩:=I.pin p F
  have g:p.1∉ch:=λz=>(f p.1 z).2.2.2 p F rfl
  exact⟨keep p.1 p.2 ne G g e n,free p.1 p.2 g e n,ne,G,d⟩
theorem Inv.un{t':Nat}(I:Inv X ae σ H s)(u:Un X.fs [] H H' s.heap h')(ar:cZ X.prog X.w H' h'):Inv X ae σ H' {s with heap:=h',toks:=t'}:=by
 obtain⟨m,⟨o,es,ep,g,r⟩,_⟩:=id I.loc;obtain⟨j,h⟩:=u.any g I.free θ;exact I.step (g':=s.gens) (d':=s.drawn) (ch:=[]) (λ_ z=>nomatch z) (λb o _ c _ e n=>u.keep b o e n c θ) (λb o _ c _ e n=>u.slot b o e n c θ) (λb o _ e n=>u.free b o e n θ) (λb o _ e=>u.there b o e θ) u.tups u.fM u.gk (λk i=>by
  obtain⟨o',d,f,a,r'⟩:=i;rw[g] at a;cases a;exact⟨_,d,f,h,r'⟩) ar I.bare
theorem Inv.call{g':Array GenState}{t':Nat}{d':Drawn}{ch:D1}(I:Inv X ae σ H s)(u:Un (frs X.stack) ch H H' s.heap h')(ar:cZ X.prog X.w H' h')(j:AllBare g')
  (a:∀b∈ch,(b∈X.ex\/X.s₀.heap.objs.size<=b)/\b≠X.env.locals/\(∀x c,X.env.cells.lookup x=some c->c≠b)/\∀p∈X.pn++ae,p.1≠b):
  Inv X ae σ H' {s with heap:=h',gens:=g',drawn:=d',toks:=t'}:=by
 obtain⟨m,⟨o,es,ep,i,r⟩,_⟩:=id I.loc;obtain⟨q,f⟩:=u.any i I.free λz=>(a _ z).2.1 rfl;exact I.step (ch:=ch) a (λb o f k hc e n=>u.keep b o e n (λz=>(bx.mp (I.rB b z)).elim f k) hc) (λb o _ _ hc e n=>u.any e n hc) (λb o hc e n=>u.free b o e n hc) (λb o hc e=>u.there b o e hc) u.tups u.fM u.gk (λt l=>by
  obtain⟨o',g,h,d,r'⟩:=l;rw[i] at d;cases d;exact⟨_,g,h,f,r'⟩) ar j
theorem Inv.turned{t':Nat}{it:Addr}(I:Inv X ae σ H s)(k:∀b o,b≠it->s.heap.get? b=some o->h'.get? b=some o)(f:H it=none)(d:it≠X.env.locals)
  (h1:it∈X.ex\/X.s₀.heap.objs.size<=it)(h2:∀x c,X.env.cells.lookup x=some c->c≠it)(g:∀p∈X.pn++ae,p.1≠it):Inv X ae σ H {s with heap:=h',toks:=t'}:=by
 have a:∀b u,H b=some u->b≠it:=λb u e z=>by rw[z,f] at e;cases e
 refine I.step (g':=s.gens) (d':=s.drawn) (ch:=[it]) (λb h=>?_) (λb o _ _ hc e _=>k b o (λz=>hc (by simp[z])) e) (λb o _ _ hc e _=>⟨o.slots,k b o (λz=>hc (by simp[z])) e⟩) (λ_ _ _ _ n=>n)
  (λb o hc e=>⟨o,k b o (λz=>hc (by simp[z])) e⟩) (λ_ _ e=>e) (λ_ _ _ e=>e) (λb ps e=>⟨#[],by rw[e];simp⟩) (λm i=>?_) (λb u e=>?_) I.bare
 .have e:b=it:=by simpa using h
  subst e;exact⟨h1,d,h2,g⟩
 .obtain⟨o,es,ep,j,r⟩:=i
  exact⟨o,es,ep,k _ o (Ne.symm d) j,r⟩
 .refine(I.ar b u e).stay (λc v hc q=>k c v ?_ q) (λ_ q=>q) λ_ _ q=>q
  rcases hc with z|z
  .rw[z];exact a b u e
  .exact a c _ z
theorem Inv.tok(I:Inv X ae σ H s)(t:Nat):Inv X ae σ H {s with toks:=t}:=I.un (h':=s.heap) (t':=t) Un.refl I.ar
theorem Inv.kept{t':Nat}(I:Inv X ae σ H s)(k:∀b u,s.heap.get? b=some u->h'.get? b=some u):Inv X ae σ H {s with heap:=h',toks:=t'}:=I.un (Un.kept k) (I.ar.kept k)
theorem Inv.laid{a:Addr}{o:HO}{t':Nat}(I:Inv X ae σ H s)(k:∀b u,s.heap.get? b=some u->h'.get? b=some u)(c:s.heap.objs.size<=a)(new:cg X.prog X.w (ax H a o) h' a o):
 Inv X ae σ (ax H a o) {s with heap:=h',toks:=t'}:=I.un (Un.laid k c (I.ar.fresh c)) (I.ar.laid k c new)
theorem Inv.write{x e:Addr}{o:HO}{t':Nat}(I:Inv X ae σ H s)(c:sE (H x))(d:e=x\/H e=some (.own x))(k:∀b u,b≠e->s.heap.get? b=some u->h'.get? b=some u)(a:∃u,h'.get? e=some u)
 (new:cg X.prog X.w (ax H x o) h' x o):Inv X ae σ (ax H x o) {s with heap:=h',toks:=t'}:=I.un (Un.write c d k a) (I.ar.write c d k a new)
theorem Inv.weak{σ':List (Option V)}(I:Inv X ae σ H s)(hl:σ'.length=σ.length)(w:∀(i:Nat) v,σ'[i]?=some (some v)->σ[i]?=some (some v)):Inv X ae σ' H s:=
 ⟨I.ok,I.os,I.bare,I.base,let ⟨m,b,a⟩:=I.loc;⟨m,b,λi x v c d e=>a i x v c (w i v d) e⟩,I.cell,I.free,I.gv,I.pin,I.ar,hl.trans I.len⟩
theorem Inv.Il{a:bh}(I:Inv X ae σ H s)(h:∀p∈a,s.heap.get? p.1=some p.2/\H p.1=none/\p.1≠X.env.locals/\p.1∉X.fs/\∀v,p.2.data≠ .cell v):Inv X a σ H s:=
 ⟨I.ok,I.os,I.bare,I.base,I.loc,I.cell,I.free,I.gv,λp b=>(cu.mp b).elim (λz=>I.pin p (mK _ z)) (h p),I.ar,I.len⟩
theorem HL{N:Ap}(c:N.Nodup){i j:Nat}{x:Str}(a:N[i]?=some x)(b:N[j]?=some x):i=j:=by
 obtain⟨h1,d⟩:=bP.mp a;obtain⟨h2,e⟩:=bP.mp b;exact(List.getElem_inj c).mp (d.trans e.symm)
theorem KS {M : Model} {A : Around} {E : aR} {i : Nat} {x : Str} {v : V} {u : Value} {Q : Unit → Shared → Prop} (I : Inv X ae σ H s) (hN : X.N.Nodup) (hi : X.N[i]? = some x) (l : Loc X.env.scope x) (r : RelV v u)
    (h : ∀ s', Inv X ae (σ.set i (some v)) H s' → (∃ a, SameBut a s.heap s'.heap ∧ (a = X.env.locals ∨ X.env.cells.lookup x = some a)) → Q () s') (hf : X.fn x = true ∨ X.env.scope.names.lookup x = some .local := by first | exact .inl rfl | exact .inr rfl | assumption) : wpAny M A (storeName X.env x u) Q E s := by
  obtain ⟨m, S, hl⟩ := id I.loc
  have J : (X.env.scope.kind == .class || (X.env.scope.kind == .module && X.env.locals != X.env.globals)) = false := by rw [I.ok.kind]; rfl
  have C : i < σ.length := by rw [I.len]; exact (bP.mp hi).1
  have kH := I.kH
  have tracked : ∀ {a : Addr} {h' : Heap}, (∃ o, s.heap.get? a = some o ∧ H a = none) → SameBut a s.heap h' → cZ X.prog X.w H h' := fun {a h'} ha f b ob e => by
    obtain ⟨_, _, t⟩ := ha
    refine (I.ar b ob e).stay (fun c R hc q => (f.2 c ?_).trans q) (fun _ q => q) fun _ _ q => q
    rintro rfl
    rcases hc with rfl | hc
    · rw [t] at e; cases e
    · rw [t] at hc; cases hc
  rcases l with hk | hk
  · refine wpAny_storeName_local hk S (fun h' T f => ?_) J
    obtain ⟨oL, _, _, U, _⟩ := id S
    refine h _ ⟨I.ok, I.os, I.bare, ⟨fun b o e n D l => ?_, fun b o e n D l => ?_, I.base.free, fun b o e l => ?_, I.base.tups, I.base.fM, I.base.gk⟩, ⟨_, T, fun j y W g B Y => ?_⟩, fun y c e => ?_, I.free, I.gv, fun p Z => ?_, tracked ⟨oL, U, I.free⟩ f, by simpa using I.len⟩ ⟨_, f, .inl rfl⟩
    · exact (f.2 b (bJ (cY (aW e) I.ok.above))).trans (I.base.keep b o e n D l)
    · obtain ⟨sl, g⟩ := I.base.slot b o e n D l
      exact ⟨sl, (f.2 b (bJ (cY (aW e) I.ok.above))).trans g⟩
    · obtain ⟨o', g⟩ := I.base.there b o e l
      exact ⟨o', (f.2 b (bJ (cY (aW e) I.ok.above))).trans g⟩
    · by_cases F : j = i
      · subst F
        rw [hi] at g; cases g
        rw [fy C] at B
        cases B
        exact ⟨u, r, .inl ⟨hk, by simp⟩⟩
      · rw [fH (Ne.symm F)] at B
        obtain ⟨u', r', q⟩ := hl j y W g B Y
        refine ⟨u', r', ?_⟩
        rcases q with ⟨k, e⟩ | ⟨k, c, e, z⟩
        · refine .inl ⟨k, ?_⟩
          have : y ≠ x := fun e => F (HL hN g (e ▸ hi))
          simp [this, e]
        · exact .inr ⟨k, c, e, z.sameBut f (kH y c e)⟩
    · obtain ⟨R, z⟩ := I.cell y c e
      exact ⟨R, z.sameBut f (kH y c e)⟩
    · obtain ⟨e, n, ne, nf, d⟩ := I.pin p Z
      exact ⟨(f.2 p.1 ne).trans e, n, ne, nf, d⟩
  · have G : X.fn x = true := by
      rcases hf with z | z
      · exact z
      · rw [z] at hk; cases hk
    obtain ⟨c, hc⟩ := I.ok.has x (.inl hk)
    obtain ⟨R, z⟩ := I.cell x c hc
    refine wpAny_storeName_cell I.ok.kind hk hc z (fun h' K f => ?_)
    obtain ⟨oc, L, O⟩ := id z
    refine h { s with heap := h' } ⟨I.ok, I.os, I.bare, ⟨fun b o e n D l => ?_, fun b o e n D l => ?_, I.base.free, fun b o e l => ?_, I.base.tups, I.base.fM, I.base.gk⟩, ⟨m, S.sameBut f (Ne.symm (kH x c hc)), fun j y W g B Y => ?_⟩, fun y c' e => ?_, I.free, I.gv, fun p Z => ?_, tracked ⟨oc, L, I.gv x c hc⟩ f, by simpa using I.len⟩ ⟨c, f, .inr hc⟩
    · exact (f.2 b (bJ (cY (aW e) (I.ok.oz x c G hc)))).trans (I.base.keep b o e n D l)
    · obtain ⟨sl, g⟩ := I.base.slot b o e n D l
      exact ⟨sl, (f.2 b (bJ (cY (aW e) (I.ok.oz x c G hc)))).trans g⟩
    · obtain ⟨o', g⟩ := I.base.there b o e l
      exact ⟨o', (f.2 b (bJ (cY (aW e) (I.ok.oz x c G hc)))).trans g⟩
    · by_cases F : j = i
      · subst F
        rw [hi] at g; cases g
        rw [fy C] at B
        cases B
        exact ⟨u, r, .inr ⟨.inl hk, c, hc, K⟩⟩
      · rw [fH (Ne.symm F)] at B
        obtain ⟨u', r', q⟩ := hl j y W g B Y
        refine ⟨u', r', ?_⟩
        rcases q with q | ⟨k, c', e, z'⟩
        · exact .inl q
        · refine .inr ⟨k, c', e, z'.sameBut f ?_⟩
          rintro rfl
          exact F (HL hN g (I.ok.inj _ _ _ e hc ▸ hi))
    · by_cases P : c' = c
      · subst P; exact ⟨_, K⟩
      · obtain ⟨w2, z2⟩ := I.cell y c' e
        exact ⟨w2, z2.sameBut f P⟩
    · obtain ⟨e, n, ne, nf, d⟩ := I.pin p Z
      refine ⟨(f.2 p.1 ?_).trans e, n, ne, nf, d⟩
      intro q
      rw [q, L] at e
      have q' : oc = p.2 := Option.some.inj e
      exact d R (by rw [← q']; exact O)
theorem rC{M:Model}{A:Around}{E:aR}{i:Nat}{x:Str}{v:V}{u:Value}{Q:Unit->Shared->Prop}(I:Inv X ae σ H s)(a:X.N.Nodup)(hi:X.N[i]?=some x)(b:Loc X.env.scope x)(r:RelV v u)
  (h:∀s',Inv X ae (σ.set i (some v)) H s'->Q () s')(c:X.fn x=true\/X.env.scope.names.lookup x=some .local:=by first|exact .inl rfl|exact .inr rfl|assumption):wpAny M A (storeName X.env x u) Q E s:=
 KS I a hi b r (λs' d _=>h s' d) c
theorem Inv.zX{s':Shared}{ch:D1}(I:Inv X ae σ H s)(d:s'.os=s.os)(u:Un (frs X.stack) ch H H' s.heap s'.heap)(ar:cZ X.prog X.w H' s'.heap)(f:AllBare s'.gens)
  (a:∀b∈ch,(b∈X.ex\/X.s₀.heap.objs.size<=b)/\b≠X.env.locals/\(∀x c,X.env.cells.lookup x=some c->c≠b)/\∀p∈X.pn++ae,p.1≠b):Inv X ae σ H' s':=by
 obtain⟨h',g',d',t',o'⟩:=s';have e:o'=s.os:=d;subst e;exact I.call (g':=g') (t':=t') (d':=d') u ar f a
end
abbrev XK:=Value->Option Addr->Hp->Prop
abbrev St:=List (Option V)
abbrev VK:=V->Hp->Prop
abbrev TE:=St->Hp->VK->Prop
abbrev TT:=St->Hp->(Bool->Hp->Prop)->Prop
abbrev TA:=St->Hp->(Bn->Hp->Prop)->Prop
structure Ends where
 nx:St->Hp->Prop
 rt:VK
 bk:St->Hp->Prop:=λ_ _=>False
 ct:St->Hp->Prop:=λ_ _=>False
abbrev TS:=Ends->St->Hp->Prop
def EP(X:Cx)(ae:bh)(σ:St)(Q:VK)(u:Value)(s':Shared):Prop:=∃v H',Inv X ae σ H' s'/\RelV v u/\Q v H'
def TP(X:Cx)(ae:bh)(σ:St)(Q:Bool->Hp->Prop)(b:Bool)(s':Shared):Prop:=∃H',Inv X ae σ H' s'/\Q b H'
def AP(X:Cx)(ae:bh)(σ:St)(Q:Bn->Hp->Prop)(us:BM)(s':Shared):Prop:=∃vs H',Inv X ae σ H' s'/\Vals vs us/\Q vs H'
def SP(X:Cx)(ae:bh)(D:Ends)(f:Flow)(s':Shared):Prop:=
 match f with
 |.next=>∃σ' H',Inv X ae σ' H' s'/\D.nx σ' H'
 |.brk=>∃σ' H',Inv X ae σ' H' s'/\D.bk σ' H'
 |.cont=>∃σ' H',Inv X ae σ' H' s'/\D.ct σ' H'
 |.ret u=>∃v σ' H',Inv X ae σ' H' s'/\RelV v u/\D.rt v H'
def PE(X:Cx)(e:Expr)(t:TE):Prop:=
 ∀(ae:bh) (s:Shared) (σ:St) (H:Hp) (Q:VK),Inv X ae σ H s->t σ H Q->wpAny (model X.prog X.w) X.A (eval e X.env) (EP X ae σ Q) X.xe s
def PT(X:Cx)(e:Expr)(t:TT):Prop:=
 ∀(ae:bh) (s:Shared) (σ:St) (H:Hp) (Q:Bool->Hp->Prop),Inv X ae σ H s->t σ H Q->wpAny (model X.prog X.w) X.A (isTrue e X.env (eval e X.env)) (TP X ae σ Q) X.xe s
def PW(X:Cx)(e:Expr)(t:TT):Prop:=
 ∀(whole:Sem Value) (ae:bh) (s:Shared) (σ:St) (H:Hp) (Q:Bool->Hp->Prop),Inv X ae σ H s->t σ H Q->wpAny (model X.prog X.w) X.A (isTrue e X.env whole) (TP X ae σ Q) X.xe s
theorem PW.pt{X:Cx}{e:Expr}{t:TT}(h:PW X e t):PT X e t:=h _
def PA(X:Cx)(es:Dx)(t:TA):Prop:=
 ∀(pos:Pos) (ae:bh) (s:Shared) (σ:St) (H:Hp) (Q:Bn->Hp->Prop),Inv X ae σ H s->t σ H Q->wpAny (model X.prog X.w) X.A (spliced (backTo pos (starEach es X.env))) (AP X ae σ Q) X.xe s
def PS(X:Cx)(st:Stmt)(t:TS):Prop:=
 ∀(ae:bh) (s:Shared) (σ:St) (H:Hp) (D:Ends),Inv X ae σ H s->t D σ H->wpAny (model X.prog X.w) X.A (exec st X.env) (SP X ae D) X.xe s
def dw(X:Cx)(st:Fu)(t:TS):Prop:=
 ∀(ae:bh) (s:Shared) (σ:St) (H:Hp) (D:Ends),Inv X ae σ H s->t D σ H->wpAny (model X.prog X.w) X.A (execs st X.env) (SP X ae D) X.xe s
theorem aN{α:Type}{t:Sem α}{Q b:α->Shared->Prop}{M:Model}{A:Around}{E:aR}{s:Shared}(h:wpAny M A t Q E s)(c:∀a s,Q a s->b a s):wpAny M A t b E s:=jK h c λ_ _ x=>x
section
def XZ(i:Nat):TE:=λσ H Q=>∃v,σ[i]?=some (some v)/\Q v H
def tC(v:V):TE:=λ_ H Q=>Q v H
theorem UG{i:Nat}{x:Str}{pos:Pos}(d:X.N[i]?=some x)(f:qu X.env.scope x)(hd:(x==("__debug__":Str))=false:=by decide)(b:(x==("__classdict__":Str))=false:=by decide):PE X (.Name x pos) (XZ i):=by
 intro ae s σ H Q I h;obtain⟨v,e,h⟩:=h;obtain⟨m,g,hl⟩:=I.loc;obtain⟨u,r,l⟩:=hl i x v d e f;have fin:EP X ae σ Q u s:=⟨v,H,I,r,h⟩;rcases l with⟨hk,j⟩|⟨hk,c,hc,a⟩
 .exact wpAny_Name (wpAny_loadName_local I.ok.kind hk g j fin) hd
 .rcases hk with hk|hk
  .exact wpAny_Name (wpAny_loadName_cell I.ok.kind hk hc a fin) hd
  .exact wpAny_Name (wpAny_loadName_free I.ok.kind hk hc a fin b) hd
theorem Uv{i j pos}:PE X (.Constant (.int i) j pos) (tC (.int i)):=λ_ _ _ H _ I h=>wpAny_Constant_int ⟨.int i,H,I.tok _,⟨_,rfl⟩,h⟩
theorem Uh{b j pos}:PE X (.Constant (.bool b) j pos) (tC (.bl b)):=λ_ _ _ H _ I h=>Constant_bool ⟨.bl b,H,I,rfl,h⟩
theorem Ux{j pos}:PE X (.Constant .none j pos) (tC .aG):=λ_ _ _ H _ I h=>Constant_none ⟨.aG,H,I,rfl,h⟩
theorem UB{x j pos}:PE X (.Constant (.str x) j pos) (tC (.str x)):=λ_ _ _ H _ I h=>Calls.Constant_str ⟨.str x,H,I.tok _,⟨_,rfl⟩,h⟩
def Gl(X:Cx)(x:Str):Prop:=X.env.kindOf x=some .globalImplicit
theorem tW{E:aR}{ae:bh}{s:Shared}{σ:St}{H:Hp}{x:Str}{u:Value}{pos:Pos}{Q:aR}(I:Inv X ae σ H s)(a:Gl X x)(b:X.mg x=some u)(h:Q u s)
  (hd:(x==("__debug__":Str))=false:=by decide):wpAny (model X.prog X.w) X.A (eval (.Name x pos) X.env) Q E s:=
 Calls.Name_function_global I.ok.kind a (Calls.loadGlobal_global (by rw[I.ok.glob];exact I.mod.glob.keeps I.bk) b h) hd
theorem jB{E:aR}{ae:bh}{s:Shared}{σ:St}{H:Hp}{x:Str}{u:Value}{pos:Pos}{Q:aR}(I:Inv X ae σ H s)(a:Gl X x)(b:X.mg x=none)(c:bootBuiltins x=some u)(h:Q u s)
  (d:x≠"__name__":=by decide)(hd:(x==("__debug__":Str))=false:=by decide):wpAny (model X.prog X.w) X.A (eval (.Name x pos) X.env) Q E s:=by
 obtain⟨mb,h1,h2⟩:=I.mod.blt;exact Calls.Name_function_global I.ok.kind a (Calls.loadGlobal_builtin (by rw[I.ok.glob];exact I.mod.glob.keeps I.bk) b (by rw[I.ok.blt];exact h1.keeps I.bk) ((h2 x d).trans c) h) hd
theorem BR{x:Str}{v:V}{u:Value}{pos:Pos}(a:Gl X x)(b:X.mg x=some u)(r:RelV v u)(hd:(x==("__debug__":Str))=false:=by decide):PE X (.Name x pos) (tC v):=
 λ_ _ _ H _ I h=>tW I a b ⟨v,H,I,r,h⟩ hd
theorem Ic{x:Str}{v:V}{u:Value}{pos:Pos}(a:Gl X x)(b:X.mg x=none)(c:bootBuiltins x=some u)(r:RelV v u)(d:x≠"__name__":=by decide)(hd:(x==("__debug__":Str))=false:=by decide):PE X (.Name x pos) (tC v):=
 λ_ _ _ H _ I h=>jB I a b c ⟨v,H,I,r,h⟩ d hd
variable{a b:Expr}{ta tb:TE}{pos:Pos}
def tB(t:TE):TT:=λσ H Q=>t σ H λx H1=>∃c,x=.bl c/\Q c H1
theorem Vj{e:Expr}{t:TE}(h:PE X e t)(a:∀whole,isTrue e X.env whole=(do let v <-whole;standAt e.pos;holding [v] (truthy v)):=by intro _;rfl):PT X e (tB t):=by
 intro ae s σ H Q I b;refine isTrue_plain (aN (h ae s σ H _ I b) λv i ⟨x,H1,c,f,g⟩=>?_) (a _);obtain⟨d,rfl,q⟩:=g;cases f;exact nN ⟨H1,c,q⟩
variable{tA yw:TT}{rest:Dx}
def Xp(t u:TT):TT:=λσ H Q=>t σ H λc H1=>if c=true then u σ H1 Q else Q false H1
def XJ(t u:TT):TT:=λσ H Q=>t σ H λc H1=>if c=true then Q true H1 else u σ H1 Q
def XI(t:TT):TT:=λσ H Q=>t σ H λc H1=>Q (!c) H1
theorem pw_and1(b:PT X a tA):PW X (.BoolOp .And [a] pos) tA:=by
 intro d ae s σ H Q I h;refine isTrue_and (aN (b ae s σ H Q I h) λc f e=>?_);cases c with
 |true=>exact isTrue_and_nil e
 |false=>exact e
theorem pw_or1(b:PT X a tA):PW X (.BoolOp .Or [a] pos) tA:=by
 intro d ae s σ H Q I h;refine isTrue_or (aN (b ae s σ H Q I h) λc f e=>?_);cases c with
 |false=>exact isTrue_or_nil e
 |true=>exact e
theorem pw_and(f:PT X a tA)(g:PW X (.BoolOp .And (b::rest) pos) yw):PW X (.BoolOp .And (a::b::rest) pos) (Xp tA yw):=by
 intro i ae s σ H Q I h;refine isTrue_and (aN (f ae s σ H _ I h) λc j ⟨H1,d,e⟩=>?_);cases c with
 |true=>exact g i ae j σ H1 Q d e
 |false=>exact⟨H1,d,e⟩
theorem pw_or(f:PT X a tA)(g:PW X (.BoolOp .Or (b::rest) pos) yw):PW X (.BoolOp .Or (a::b::rest) pos) (XJ tA yw):=by
 intro i ae s σ H Q I h;refine isTrue_or (aN (f ae s σ H _ I h) λc j ⟨H1,d,e⟩=>?_);cases c with
 |true=>exact⟨H1,d,e⟩
 |false=>exact g i ae j σ H1 Q d e
theorem Vi(b:PT X a tA):PT X (.UnaryOp .Not a pos) (XI tA):=by
 intro ae s σ H Q I h;exact isTrue_not (b ae s σ H (λc H1=>Q (!c) H1) I h)
def Xq(ta tb:TE):TE:=λσ H Q=>ta σ H λx H1=>∃c,x=.bl c/\if c=true then tb σ H1 Q else Q (.bl false) H1
theorem Uy{op}{t:TE}(h:PE X a t):PE X (.BoolOp op [a] pos) t:=λae s σ H Q I b=>BoolOp_one (h ae s σ H Q I b)
theorem Ug(f:PE X a ta)(g:PE X (.BoolOp .And (b::rest) pos) tb):PE X (.BoolOp .And (a::b::rest) pos) (Xq ta tb):=by
 intro ae s σ H Q I h;refine BoolOp_and (aN (f ae s σ H _ I h) λv i ⟨x,H1,e,j,d⟩=>?_);obtain⟨c,rfl,d⟩:=d;cases j;refine nN ?_;cases c with
 |true=>exact g ae i σ H1 Q e d
 |false=>exact⟨.bl false,H1,e,rfl,d⟩
end
def aU(K:Frag)(H:Hp)(a:Addr)(xs:Bn):Prop:=
 Rd H a (.lst xs)\/
  ∃(o:Obj) (its:Array Value) (n:Nat),K.lookup a=some o/\o.cls=.type "list"/\o.dict=none/\o.data=.seq its n/\its.size<=sizeLine/\Vals xs its.toList
def bL(K:Frag)(H:Hp)(a:Addr)(xs:Bn):Prop:=
 Rd H a (.tup xs)\/
  ∃(o:Obj) (its:Array Value) (n:Nat),K.lookup a=some o/\o.cls=.type "tuple"/\o.data=.seq its n/\its.size<=sizeLine/\Vals xs its.toList
noncomputable def Mf:Value->Option V
 |.none=>some .aG
 |.bool b=>some (.bl b)
 |.int i _=>some (.int i)
 |.str x _=>some (.str x)
 |.bytes b _=>some (.jV b)
 |.float b _=>some (.qJ b)
 |.ref a=>some (.ref a)
 |.type n=>some (.ty n)
 |_=>none
theorem RelV.abs{x:V}{u:Value}(r:RelV x u):Mf u=some x:=by
 cases x with
 |aG=>cases r;rfl
 |bl _=>cases r;rfl
 |int _=>obtain⟨t,rfl⟩:=r;rfl
 |str _=>obtain⟨t,rfl⟩:=r;rfl
 |jV _=>obtain⟨t,rfl⟩:=r;rfl
 |qJ _=>obtain⟨t,rfl⟩:=r;rfl
 |ref _=>cases r;rfl
 |ty _=>cases r;rfl
theorem RelV.inj{x y:V}{u:Value}(r:RelV x u)(q:RelV y u):x=y:=Option.some.inj (r.abs.symm.trans q.abs)
theorem Vals.inj:∀{xs ys:Bn} {a:BM},Vals xs a->Vals ys a->xs=ys
 |_,_,_,.nil,.nil=>rfl
 |_,_,_,.cons r t,.cons r' t'=>by rw[r.inj r',Vals.inj t t']
section
variable{ae:bh}{σ:St}{H:Hp}{s:Shared}{a:Addr}{xs ys:Bn}
theorem aU.of{K:Frag}(h:H a=some (.lst xs)):aU K H a xs:=.inl (.inl h)
theorem bL.of{K:Frag}(h:H a=some (.tup xs)):bL K H a xs:=.inl (.inl h)
theorem Inv.list(I:Inv X ae σ H s)(h:aU X.K H a xs):∃its:BM,Vals xs its/\PlainL s.heap a its.toArray/\xs.length<=sizeLine:=by
 rcases h with h|⟨o,its,n,b,hc,hd,c,hz,r⟩
 .obtain⟨z,its,n,r,e⟩:=h.ok I.ar
  exact⟨its,r,⟨_,n,e,rfl,rfl,rfl⟩,z⟩
 .refine⟨its.toList,r,⟨o,n,I.e_ a o b,hc,hd,by simpa using c⟩,?_⟩
  have e:=r.length;simp only[gA] at e;omega
theorem Inv.tuple(I:Inv X ae σ H s)(h:bL X.K H a xs):∃its:BM,Vals xs its/\IsTup s.heap a its.toArray/\xs.length<=sizeLine:=by
 rcases h with h|⟨o,its,n,b,hc,c,hz,r⟩
 .obtain⟨z,its,r,p⟩:=h.ok I.ar
  exact⟨its,r,p.is,z⟩
 .refine⟨its.toList,r,⟨o,I.e_ a o b,hc,n,by simpa using c⟩,?_⟩
  have e:=r.length;simp only[gA] at e;omega
theorem Inv.CF(I:Inv X ae σ H s)(h:H a=some (.tup xs)):∃(its:BM) (n:Nat),Vals xs its/\s.heap.get? a=some {cls:=.type "tuple",data:=.seq its.toArray n}/\xs.length<=sizeLine:=by
 obtain⟨z,its,r,n,e⟩:=(show cg X.prog X.w H s.heap a (.tup xs) from I.ar a _ h);exact⟨its,n,r,e,z⟩
theorem Inv.Bs(I:Inv X ae σ H s)(h:aU X.K H a xs)(h':aU X.K H a ys):xs=ys:=by
 obtain⟨its,r,⟨o,n,e,_,_,d⟩,_⟩:=I.list h;obtain⟨its',r',⟨o',n',b,_,_,d'⟩,_⟩:=I.list h';rw[e] at b;cases b;rw[d] at d';injection d' with c _;have:its=its':=by simpa using cB toList c
 subst this;exact r.inj r'
theorem Inv.Yc(I:Inv X ae σ H s)(h:bL X.K H a xs)(h':bL X.K H a ys):xs=ys:=by
 obtain⟨its,r,⟨o,e,_,n,d⟩,_⟩:=I.tuple h;obtain⟨its',r',⟨o',b,_,n',d'⟩,_⟩:=I.tuple h';rw[e] at b;cases b;rw[d] at d';injection d' with c _;have:its=its':=by simpa using cB toList c
 subst this;exact r.inj r'
end
section
variable{st:Stmt}{rest:Fu}{t u:TS}{e:Expr}{te:TE}{pos:Pos}
def XF:TS:=λD σ H=>D.nx σ H
def XR(t u:TS):TS:=λD σ H=>t {D with nx:=u D} σ H
theorem Ve:dw X [] XF:=λ_ _ σ H _ I h=>u7 ⟨σ,H,I,h⟩
theorem Vd(h1:PS X st t)(h2:dw X rest u):dw X (st::rest) (XR t u):=by
 intro ae s σ H D I h;refine wpAny_execs_cons (aN (h1 ae s σ H {D with nx:=u D} I h) λf a q=>?_);cases f with
 |next=>
  obtain⟨σ',H',b,q⟩:=q;exact h2 ae a σ' H' D b q
 |ret v=>exact q
 |brk=>exact q
 |cont=>exact q
theorem Vf(h1:PS X st t):dw X [st] t:=by
 intro ae s σ H D I h;refine wpAny_execs_cons (aN (h1 ae s σ H D I h) λf a q=>?_);cases f with
 |next=>exact u7 q
 |ret v=>exact q
 |brk=>exact q
 |cont=>exact q
theorem Inv.quiet{ae:bh}{σ:St}{H:Hp}{s:Shared}(I:Inv X ae σ H s):interactive X.env=false:=by simp[interactive,I.ok.kind]
def Xy(te:TE):TS:=λD σ H=>te σ H λ_ H1=>D.nx σ H1
theorem U6(a:PE X e te)(b:swapsWith e none pos.line X.env=pure false:=by rfl):PS X (.Expr e pos) (Xy te):=by
 intro ae s σ H D I h;exact wpAny_Expr_any (aN (a ae s σ H _ I h) λv f ⟨x,H1,c,g,d⟩=>⟨σ,H1,c,d⟩) I.quiet b
def XQ(te:TE):TS:=λD σ H=>te σ H D.rt
theorem U'(a:PE X e te):PS X (.Return (some e) pos) (XQ te):=by
 intro ae s σ H D I h;exact wpAny_Return_some (aN (a ae s σ H _ I h) λv f ⟨x,H1,b,c,d⟩=>⟨x,σ,H1,b,c,d⟩)
def XC(c:TT)(t u:TS):TS:=λD σ H=>c σ H λb H1=>if b=true then t D σ H1 else u D σ H1
theorem U8{c:Expr}{a b:Fu}{tc:TT}(hc:PT X c tc)(i:dw X a t)(j:dw X b u):PS X (.If c a b pos) (XC tc t u):=by
 intro ae s σ H D I h;refine wpAny_If (aN (hc ae s σ H _ I h) λd e ⟨H1,f,g⟩=>?_);cases d with
 |true=>exact i ae e σ H1 D f g
 |false=>exact j ae e σ H1 D f g
end
abbrev TG:=V->St->Hp->(St->Hp->Prop)->Prop
abbrev kF:=Bn->St->Hp->(St->Hp->Prop)->Prop
def PG(X:Cx)(target:Expr)(t:TG):Prop:=
 ∀(ae:bh) (s:Shared) (σ:St) (H:Hp) (v:V) (u:Value) (Q:St->Hp->Prop),Inv X ae σ H s->RelV v u->t v σ H Q->
  wpAny (model X.prog X.w) X.A (assign target X.env u) (λ_ s'=>∃σ' H',Inv X ae σ' H' s'/\Q σ' H') X.xe s
def kE(X:Cx)(ts:Dx)(t:kF):Prop:=
 ∀(ae:bh) (s:Shared) (σ:St) (H:Hp) (vs:Bn) (us:BM) (Q:St->Hp->Prop),Inv X ae σ H s->Vals vs us->t vs σ H Q->
  wpAny (model X.prog X.w) X.A (assignInOrder ((assignEach ts X.env).map (·.2)) us) (λ_ s'=>∃σ' H',Inv X ae σ' H' s'/\Q σ' H') X.xe s
abbrev vF:=V->V->Hp->VK->Prop
def Dt(X:Cx)(op:Operator)(t:vF):Prop:=
 ∀(ae:bh) (s:Shared) (σ:St) (H:Hp) (x y:V) (v u:Value) (Q:VK),Inv X ae σ H s->RelV x v->RelV y u->t x y H Q->
  wpAny (model X.prog X.w) X.A (inplaceOp op v u) (EP X ae σ Q) X.xe s
section
variable{pos:Pos}
def qL(i:Nat):TG:=λv σ H Q=>Q (σ.set i (some v)) H
theorem Ij{i:Nat}{x:Str}(a:X.N.Nodup)(hi:X.N[i]?=some x)(b:Loc X.env.scope x)(c:X.fn x=true\/X.env.scope.names.lookup x=some .local:=by first|exact .inl rfl|exact .inr rfl|assumption):PG X (.Name x pos) (qL i):=by
 intro ae s σ H v u Q I r h;exact wpAny_assign_Name (rC I a hi b r (λs' d=>⟨_,H,d,h⟩) c)
def Gn:kF:=λvs σ H Q=>vs=[]/\Q σ H
def Gm(t:TG)(u:kF):kF:=λvs σ H Q=>∃v r,vs=v::r/\t v σ H λσ' H'=>u r σ' H' Q
theorem mu:kE X [] Gn:=by
 intro ae s σ H vs a Q I r h;obtain⟨e,h⟩:=h;subst e;cases r;exact assignInOrder_nil ⟨σ,H,I,h⟩
theorem gj{e:Expr}{es:Dx}{t:TG}{u:kF}(h1:PG X e t)(h2:kE X es u)
  (b:(assignEach (e::es) X.env).map (·.2)=assign e X.env::(assignEach es X.env).map (·.2):=by rfl):kE X (e::es) (Gm t u):=by
 intro ae s σ H vs j Q I r h;obtain⟨v,vr,c,h⟩:=h;subst c;cases r with
 |cons r d=>
  rw[b];refine assignInOrder_cons (aN (h1 ae s σ H _ _ _ I r h) λ_ f ⟨a,H1,g,i⟩=>?_);exact h2 ae f a H1 _ _ Q g d i
def Gp(K:Frag)(n:Nat)(t:kF):TG:=λv σ H Q=>∃a xs,v=.ref a/\bL K H a xs/\xs.length=n/\t xs σ H Q
theorem mq{es:Dx}{k:Nat}{t:kF}{n:Nat}(hc:X.calm=true)(h:kE X es t)
  (g:(assignEach es X.env).length=n:=by rfl)(c:(assignEach es X.env).findIdx? (·.1)=none:=by rfl):PG X (.Tuple es k pos) (Gp X.K n t):=by
 intro ae s σ H v u Q I r d;obtain⟨a,xs,i,j,hl,d⟩:=d;subst i;cases r;obtain⟨its,f,l,hz⟩:=I.tuple j;refine assign_Tuple_tuple (I.ok.hd hc) l (by simp[g,<-hl,f.length]) c λh' m=>?_;have p:Inv X ae σ H {s with heap:=h'}:=I.kept (t':=s.toks) λb o e=>m b o (bJ (aW e)) e;exact h ae _ σ H xs _ Q p (by simpa using f) d
def yv(te:TE)(g:TG):TS:=λD σ H=>te σ H λx H1=>g x σ H1 D.nx
theorem U3{tg e:Expr}{te:TE}{g:TG}(a:PE X e te)(b:PG X tg g)(c:swapsWithSole [tg] e pos.line X.env=pure false:=by rfl)(d:swappedStores [tg] e X.env=pure none:=by rfl)
  (h1:(assignEach [tg] X.env).map (·.2)=[assign tg X.env]:=by rfl):PS X (.Assign [tg] e pos) (yv te g):=by
 intro ae s σ H D I h;refine wpAny_Assign_stores (aN (a ae s σ H _ I h) λv f ⟨x,H1,i,j,k⟩=>?_) c d;rw[h1];exact aN (b ae f σ H1 x v _ i j k) λ_ l q=>q
theorem Va{i:Nat}{x:Str}{e:Expr}{te:TE}{pos':Pos}(a:X.N.Nodup)(hi:X.N[i]?=some x)(b:Loc X.env.scope x)(c:PE X e te)(d:swapsWith e (some (.Name x pos')) pos.line X.env=pure false:=by rfl)(f:X.fn x=true\/X.env.scope.names.lookup x=some .local:=by first|exact .inl rfl|exact .inr rfl|assumption):
  PS X (.Assign [.Name x pos'] e pos) (yv te (qL i)):=by
 intro ae s σ H D I h;refine wpAny_Assign_Name (aN (c ae s σ H _ I h) λv m ⟨y,H1,g,j,k⟩=>?_) d;exact rC g a hi b j (λn l=>⟨_,H1,l,k⟩) f
def XM(i j:Nat)(ta:TA):TS:=λD σ H=>ta σ H λvs H1=>∃v w,vs=[v,w]/\D.nx ((σ.set i (some v)).set j (some w)) H1
theorem U9{i j:Nat}{x y:Str}{a b:Expr}{ta:TA}{px py pt:Pos}{kt k2 c}(hc:X.calm=true)(r:X.N.Nodup)(hi:X.N[i]? =some x)(B:X.N[j]? =some y)(k:i≠j)
  (t:X.env.scope.names.lookup x=some .local)(u:X.env.scope.names.lookup y=some .local)(C:PA X [a,b] ta)
  (E:swappedStores [.Tuple [.Name x px,.Name y py] kt pt] (.Tuple [a,b] k2 c) X.env=pure (some [x,y]))
  (F:swapsWithSole [.Tuple [.Name x px,.Name y py] kt pt] (.Tuple [a,b] k2 c) pos.line X.env=pure false:=by rfl):
  PS X (.Assign [.Tuple [.Name x px,.Name y py] kt pt] (.Tuple [a,b] k2 c) pos) (XM i j ta):=by
 intro ae s σ H D I h
 rw[exec_Assign_arm]
 refine ah (yY ?_)
 rw[F]
 refine ah (aF ?_)
 rw[ay δ]
 refine ah (Tuple_ (aN (C _ ae s σ H _ I h) λG d ⟨vs,H1,J,K,l⟩=> ?_))
 obtain⟨v,w,L,l⟩:=l
 subst L
 obtain⟨f,g,rfl,M,m⟩:∃f g,G=[f,g]/\RelV v f/\RelV w g:=by
  cases K with
  |cons p q=>
   cases q with
   |cons O P=>
    cases P
    exact⟨_,_,rfl,p,O⟩
 refine gD ?_ (by show 2<=sizeLine;decide)
 have Q:Inv X ae σ H1 {d with heap:=d.heap.push {cls:= .type "tuple",data:= .seq [f,g].toArray}}:=J.kept (t':=d.toks) λb o e=>bu _ e
 rw[E]
 refine ah (aF ?_)
 show wpAny (model X.prog X.w) X.A (do rule "assign.swapped-stores";let items <-unpackItems (.ref d.heap.objs.size) 2 none;assignInOrder [λv=>bindName X.env y v,λv=>bindName X.env x v] items.reverse;pure Flow.next) _ _ _
 refine ah (kj (ah (unpackItems_tuple (items:= #[f,g]) (I.ok.hd hc) (IsTup.new d.heap _) λh' n=> ?_)))
 have R:=Q.kept (h':=h') (t':=d.toks) λb o e=>n b o (bJ (aW e)) e
 show wpAny _ _ (assignInOrder [λv=>bindName X.env y v,λv=>bindName X.env x v] [g,f]>>=λ_=>pure Flow.next) _ _ _
 refine ah (assignInOrder_cons (wpAny_bindName (rC R r B (.inl u) m (λT S=> ?_) (.inr u))))
 refine assignInOrder_cons (wpAny_bindName (rC S r hi (.inl t) M (λU z=>assignInOrder_nil (aF ?_)) (.inr t)))
 rw[List.set_comm _ _ (Ne.symm k)] at z
 exact⟨_,H1,z,l⟩
def Xr(i:Nat)(te:TE)(ti:vF):TS:=λD σ H=>∃x,σ[i]?=some (some x)/\te σ H λy H1=>ti x y H1 λz H2=>D.nx (σ.set i (some z)) H2
theorem U4{i:Nat}{x:Str}{e:Expr}{te:TE}{op:Operator}{ti:vF}{pos':Pos}(j:X.N.Nodup)(hi:X.N[i]?=some x)(f:Loc X.env.scope x)(n:PE X e te)(o:Dt X op ti)(p:X.fn x=true\/X.env.scope.names.lookup x=some .local:=by first|exact .inl rfl|exact .inr rfl|assumption):
  PS X (.AugAssign (.Name x pos') op e pos) (Xr i te ti):=by
 intro ae s σ H D I h;obtain⟨v,q,h⟩:=h;obtain⟨m,t,hl⟩:=I.loc;have g:qu X.env.scope x:=by rcases f with k|k;exact .inl k;exact .inr (.inl k)
 obtain⟨u,r,l⟩:=hl i x v hi q g;refine wpAny_AugAssign_Name ?_;have go:wpAny (model X.prog X.w) X.A (eval e X.env) (λw b=>wpAny (model X.prog X.w) X.A (inplaceOp op u w) (λr d=>wpAny (model X.prog X.w) X.A (storeName X.env x r) (λ_=>SP X ae D .next) X.xe d) X.xe b) X.xe s:=by
  refine aN (n ae s σ H _ I h) λw B ⟨y,H1,C,E,F⟩=>?_;refine aN (o ae B σ H1 v y u w _ C r E F) λz O ⟨P,H2,G,J,K⟩=>?_;exact rC G j hi f J (λQ L=>⟨_,H2,L,K⟩) p
 rcases l with⟨hk,M⟩|⟨hk,c,hc,a⟩
 .exact wpAny_loadName_local I.ok.kind hk t M go
 .rcases hk with hk|hk
  .exact wpAny_loadName_cell I.ok.kind hk hc a go
  .rcases f with k|k
   .have:X.env.scope.names.lookup x=some .free:=hk
    rw[k] at this;cases this
   .have:X.env.scope.names.lookup x=some .free:=hk
    rw[k] at this;cases this
def Ra(f:Int->Int->Int):vF:=λx y H Q=>∃i j,x=.int i/\y=.int j/\Q (.int (f i j)) H
theorem Rb:Dt X .Add (Ra λi j=>i+j):=by
 intro ae s σ H x y v u Q I a b h;obtain⟨i,j,c,d,q⟩:=h;subst c;subst d;obtain⟨t,rfl⟩:=a;obtain⟨t',rfl⟩:=b;exact iadd_int ⟨.int _,H,I.tok _,⟨_,rfl⟩,q⟩
def X0(c:TT)(tb:TS):TS:=λD σ H=>∃W:Nat->St->Hp->Prop,(∃m,W m σ H)/\∀m σ H,W m σ H->
 c σ H λb H1=>if b=true then ∃N:St->Hp->Prop,(∀σ' H',N σ' H'->∃m',m'<m/\W m' σ' H')/\tb {D with nx:=N,ct:=N,bk:=D.nx} σ H1 else D.nx σ H1
theorem Vc{c:Expr}{body:Fu}{tc:TT}{tb:TS}(o:PassesOwn (model X.prog X.w) X.A X.env X.xe)(hc:PT X c tc)(r:dw X body tb):PS X (.While c body [] pos) (X0 tc tb):=by
 intro ae s σ H D I h;obtain⟨W,⟨m0,t⟩,turn⟩:=h;refine wpAny_While (codeAny_whileLoop (λn s'=>∃σ' H',Inv X ae σ' H' s'/\W n σ' H') ?_ m0 ⟨σ,H,I,t⟩);rintro n u ⟨d,H1,x,y⟩;refine pV o (aN (hc ae u d H1 _ x (turn n d H1 y)) λb z ⟨H2,p,g⟩=>?_);cases b with
 |true=>
  obtain⟨N,q,g⟩:=g;rw[aC rfl];refine pV o (aN (r ae z d H2 _ p g) λf B i=>?_);cases f with
  |next=>
   obtain⟨a,e,j,n3⟩:=i;obtain⟨k,l,m⟩:=q a e n3;exact⟨k,l,a,e,j,m⟩
  |cont=>
   obtain⟨a,e,j,n3⟩:=i;obtain⟨k,l,m⟩:=q a e n3;exact⟨k,l,a,e,j,m⟩
  |brk=>exact i
  |ret v=>exact i
 |false=>
  rw[ay cF];exact u7 ⟨d,H2,p,g⟩
end
structure It where
 go:Nat->Hp->Prop
 yJ:Nat->Hp->V->Hp->Prop
 stop:Nat->Hp->Prop
def iA(X:Cx)(ae:bh)(H:Hp)(b:Addr):Prop:=
 H b=none/\b≠X.env.locals/\b∉X.fs/\(b∈X.ex\/X.s₀.heap.objs.size<=b)/\(∀x c,X.env.cells.lookup x=some c->c≠b)/\∀p∈X.pn++ae,p.1≠b
theorem Inv.ng{X:Cx}{ae:bh}{σ:St}{H H':Hp}{s:Shared}{b:Addr}(I:Inv X ae σ H s)(a:s.heap.objs.size<=b)(d:H' b=none):iA X ae H' b:=by
 refine⟨d,kg (cY I.lt a),I.Tf a,.inr (dF I.sz a),λx c e z=>?_,λp f z=>?_⟩
 .obtain⟨v,q⟩:=I.cell x c e
  exact absurd (cY q.lt (by rw[z];exact a)) (fJ _)
 .exact absurd (cY (aW (I.pin p f).1) (by rw[z];exact a)) (fJ _)
structure Turn(P:Program)(w:World)(K:Frag)(tg:Expr)(J:It)(fp:D1)(it:Addr)(tn:Nat->Heap->Prop):Prop where
 mem:it∈fp
 obj:∀i h,tn i h->∀b∈fp,∃o,h.get? b=some o/\∀v,o.data≠ .cell v
 keep:∀i h h',tn i h->(∀b∈fp,∀o,h.get? b=some o->h'.get? b=some o)->tn i h'
 item:∀(X:Cx),X.prog=P->X.w=w->X.K=K->X.calm=true->∀(i:Nat) (ae:bh) (s:Shared) (σ:St) (H:Hp) (E:aR),Inv X ae σ H s->(∀b∈fp,iA X ae H b)->tn i s.heap->J.go i H->
  wpAny (model P w) X.A (pyNext (.ref it)) (λr s1=>∃u,r=some u/\
   wpAny (model P w) X.A (letOwnedTupleGo tg (.ref it) u) (λ_ s2=>∃x H',Inv X ae σ H' s2/\RelV x u/\J.yJ i H x H'/\tn (i+1) s2.heap/\∀b∈fp,H' b=none) E s1) E s
 done:∀(X:Cx),X.prog=P->X.w=w->X.K=K->X.calm=true->∀(i:Nat) (ae:bh) (s:Shared) (σ:St) (H:Hp) (E:aR),Inv X ae σ H s->(∀b∈fp,iA X ae H b)->tn i s.heap->J.stop i H->
  wpAny (model P w) X.A (pyNext (.ref it)) (λr s1=>r=none/\Inv X ae σ H s1) E s
 self:∀(A:Around) (i:Nat) (s:Shared) (Q:aR) (E:aR),tn i s.heap->Q (.ref it) s->wpAny (model P w) A (pyIter (.ref it)) Q E s
abbrev TI:=St->Hp->(It->Hp->Prop)->Prop
def zz(X:Cx)(ae:bh)(σ:St)(tg:Expr)(R:It->Hp->Prop)(itv:Value)(s2:Shared):Prop:=
 ∃(it:Addr) (fp:D1) (tn:Nat->Heap->Prop) (J:It) (H':Hp),itv=.ref it/\Inv X ae σ H' s2/\Turn X.prog X.w X.K tg J fp it tn/\tn 0 s2.heap/\(∀b∈fp,iA X ae H' b)/\R J H'
def PI(X:Cx)(tg iter:Expr)(wi:TI):Prop:=
 ∀(ae:bh) (s:Shared) (σ:St) (H:Hp) (R:It->Hp->Prop),Inv X ae σ H s->wi σ H R->
  wpAny (model X.prog X.w) X.A (eval iter X.env) (λv s1=>wpAny (model X.prog X.w) X.A (pyIter v) (zz X ae σ tg R) X.xe s1) X.xe s
theorem tH{M:Model}{A:Around}{E:aR}{s:Shared}{tg:Expr}{it:Addr}{u:Value}{o:Obj}{n:String}{vs:Array Value}{Q:Unit->Shared->Prop}(b:s.heap.get? it=some o)(hc:o.cls=.type n)(hd:o.data=.fields vs)
  (c:["enumerate","zip","dict_itemiterator","dict_reverseitemiterator","odict_iterator","itertools.zip_longest","itertools.pairwise"].contains n=false)(a:Q () s):wpAny M A (letOwnedTupleGo tg (.ref it) u) Q E s:=by
 unfold letOwnedTupleGo;cases tg<;>first
  |exact aF a
  |(cases u<;>first
    |exact aF a
    |(refine ah (wpAny_load b ?_)
      rw[hc,hd];show wpAny M A (if (["enumerate","zip","dict_itemiterator","dict_reverseitemiterator","odict_iterator","itertools.zip_longest","itertools.pairwise"].contains n&&vs[0]? ==some (rawInt _))=true then _ else _) Q E s;rw[ay (by intro h;rw[c,Bool.false_and] at h;cases h)];exact aF a))
noncomputable def vo(K:Frag)(a:Addr):It:=
 ⟨λi H=>∃xs x,aU K H a xs/\xs[i]?=some x,λi H x H'=>H'=H/\∀xs,aU K H a xs->xs[i]?=some x,λi H=>∃xs,aU K H a xs/\xs.length<=i⟩
noncomputable def zv(K:Frag)(a:Addr):It:=
 ⟨λi H=>∃xs x,bL K H a xs/\xs[i]?=some x,λi H x H'=>H'=H/\∀xs,bL K H a xs->xs[i]?=some x,λi H=>∃xs,bL K H a xs/\xs.length<=i⟩
def vp(lo:Int)(n:Nat):It:=⟨λi _=>i<n,λi H x H'=>H'=H/\x=.int (lo+i),λi _=>n<=i⟩
theorem Yj{P:Program}{w:World}{K:Frag}{tg:Expr}(a it:Addr):Turn P w K tg (vo K a) [it] it (λi h=>h.IsListIter it a i) where
 mem:=θ
 obj:=λi h st b f=>by
  have e:b=it:=by simpa using f
  subst e
  obtain⟨o,e,c,d⟩:=st
  exact⟨o,e,λv z=>by rw[d] at z;cases z⟩
 keep:=λi h h' st k=>st.at λo e=>k it θ o e
 item:=by
  intro X m n q hc i ae s σ H E I j st r
  subst m n q
  obtain⟨xs,x,l,t⟩:=r
  obtain⟨its,y,p,hz⟩:=I.list l
  obtain⟨u,C,D⟩:=y.get t
  obtain⟨f0,f1,f2,A,f4,B⟩:=j it θ
  refine wpAny_pyNext_list_item st p.isList (x:=u) (by simpa using C) λh' g F=> ?_
  have G:Inv X ae σ H {s with heap:=h'}:=I.turned (t':=s.toks) (λb o f e=>(F.2 b f).trans e) f0 f1 A f4 B
  obtain⟨o,e,c,d⟩:=id g
  exact⟨u,rfl,tH (s:={s with heap:=h'}) e c d δ ⟨x,H,G,D,⟨rfl,λys J=>by rw[I.Bs J l];exact t⟩,g,λb f=>(j b f).1⟩⟩
 done:=by
  intro X m n q hc i ae s σ H E I j st r
  subst m n q
  obtain⟨xs,l,t⟩:=r
  obtain⟨its,y,p,hz⟩:=I.list l
  obtain⟨f0,f1,f2,A,f4,B⟩:=j it θ
  have hl:=y.length
  exact wpAny_pyNext_list_end (I.ok.hd hc) st p.isList (by simp;omega) λh' L=>⟨rfl,I.turned (t':=s.toks) (λb o f e=>L b o f e) f0 f1 A f4 B⟩
 self:=λ_ _ _ _ _ st h=>wpAny_pyIter_listiter st h
theorem Yo{P:Program}{w:World}{K:Frag}{tg:Expr}(a it:Addr):Turn P w K tg (zv K a) [it] it (λi h=>h.IsTupleIter it a i) where
 mem:=θ
 obj:=λi h st b f=>by
  have e:b=it:=by simpa using f
  subst e
  obtain⟨o,e,c,d⟩:=st
  exact⟨o,e,λv z=>by rw[d] at z;cases z⟩
 keep:=λi h h' st k=>st.at λo e=>k it θ o e
 item:=by
  intro X m n q hc i ae s σ H E I j st r
  subst m n q
  obtain⟨xs,x,l,t⟩:=r
  obtain⟨its,y,p,hz⟩:=I.tuple l
  obtain⟨u,C,D⟩:=y.get t
  obtain⟨f0,f1,f2,A,f4,B⟩:=j it θ
  refine wpAny_pyNext_tuple_item st (show s.heap.IsTuple a its.toArray from p) (x:=u) (by simpa using C) λh' g F=> ?_
  have G:Inv X ae σ H {s with heap:=h'}:=I.turned (t':=s.toks) (λb o f e=>(F.2 b f).trans e) f0 f1 A f4 B
  obtain⟨o,e,c,d⟩:=id g
  exact⟨u,rfl,tH (s:={s with heap:=h'}) e c d δ ⟨x,H,G,D,⟨rfl,λys J=>by rw[I.Yc J l];exact t⟩,g,λb f=>(j b f).1⟩⟩
 done:=by
  intro X m n q hc i ae s σ H E I j st r
  subst m n q
  obtain⟨xs,l,t⟩:=r
  obtain⟨its,y,p,hz⟩:=I.tuple l
  obtain⟨f0,f1,f2,A,f4,B⟩:=j it θ
  have hl:=y.length
  exact wpAny_pyNext_tuple_end (I.ok.hd hc) st (show s.heap.IsTuple a its.toArray from p) (by simp;omega) λh' L=>⟨rfl,I.turned (t':=s.toks) (λb o f e=>L b o f e) f0 f1 A f4 B⟩
 self:=λ_ _ _ _ _ st h=>wpAny_pyIter_tupleiter st h
theorem Yl{P:Program}{w:World}{K:Frag}{tg:Expr}(it:Addr)(lo:Int)(n:Nat):Turn P w K tg (vp lo n) [it] it (λi h=>IsRangeIter h it (lo+(i:Nat)*1) ((n:Int) - (i:Nat)) 1) where
 mem:=θ
 obj:=λi h st b a=>by
  have e:b=it:=by simpa using a
  subst e
  exact⟨_,st,λv z=>by
   have q:Data.fields _=Data.cell v:=z
   cases q⟩
 keep:=λi h h' st k=>k it θ _ st
 item:=by
  intro X f g j hc i ae s σ H E I d st l
  subst f g j
  obtain⟨f0,f1,f2,m,f4,p⟩:=d it θ
  have W:=Walks.range (prog:=X.prog) (w:=X.w) (I.ok.hd hc) it lo 1 n
  refine W.item i s _ _ l st λv h' tk r c u=> ?_
  obtain⟨t,rfl⟩:=r
  have x:Inv X ae σ H {s with heap:=h',toks:=tk}:=I.turned (λb o a e=>u b o (by simpa using a) e) f0 f1 m f4 p
  refine⟨_,rfl,tH (s:={s with heap:=h',toks:=tk}) (n:="range_iterator") c rfl rfl δ ⟨.int (lo+i),H,x,⟨t,?_⟩,⟨rfl,rfl⟩,c,λb a=>(d b a).1⟩⟩
  rw[Int.mul_one]
 done:=by
  intro X f g j hc i ae s σ H E I d st l
  subst f g j
  obtain⟨f0,f1,f2,m,f4,p⟩:=d it θ
  exact wpAny_pyNext_range_end (I.ok.hd hc) st (by have:n<=i:=l;omega) λh' y=>⟨rfl,I.turned (t':=s.toks) (λb o a e=>y b o a e) f0 f1 m f4 p⟩
 self:=λ_ _ _ _ _ st h=>wpAny_pyIter_rangeiter st h
section
variable{tg:Expr}
theorem Vv{ae:bh}{σ:St}{H:Hp}{s:Shared}{R:It->Hp->Prop}{E:aR}{lo hi:Int}{t u v:Tok}{tk:Nat}(I:Inv X ae σ H s)(h1: -(2 ^ 62)<=lo)(h2:lo<2 ^ 62)(c: -(2 ^ 62)<=hi)(d:hi<2 ^ 62)
  (q:R (vp lo (hi - lo).toNat) H):wpAny (model X.prog X.w) X.A (pyIter (.ref s.heap.objs.size)) (zz X ae σ tg R) E {s with heap:=s.heap.push {cls:=.type "range",data:=.fields #[.int lo t,.int hi u,.int 1 v]},toks:=tk}:=by
 refine wpAny_pyIter_range (IsRange.new ..) (small_one h1 h2 c d) ?_;have a:Inv X ae σ H {s with heap:=s.heap.push {cls:=.type "range",data:=.fields #[.int lo t,.int hi u,.int 1 v]},toks:=tk}:=I.kept λb o e=>bu _ e;refine⟨(s.heap.push {cls:=.type "range",data:=.fields #[.int lo t,.int hi u,.int 1 v]}).objs.size,[(s.heap.push {cls:=.type "range",data:=.fields #[.int lo t,.int hi u,.int 1 v]}).objs.size],_,_,H,rfl,
  a.kept (t':=tk) λb o e=>bu _ e,Yl _ lo (hi - lo).toNat,?_,λb f=>?_,q⟩
 .have g:lo+((0:Nat):Int)*1=lo:=θ
  have h:(((hi - lo).toNat:Nat):Int) - ((0:Nat):Int)=Builtin.Range.rangeSize lo hi 1:=by rw[rangeSize_one];split<;>omega
  show IsRangeIter _ _ (lo+((0:Nat):Int)*1) ((((hi - lo).toNat:Nat):Int) - ((0:Nat):Int)) 1;rw[g,h];exact cy _ rfl
 .have e:b=(s.heap.push {cls:=.type "range",data:=.fields #[.int lo t,.int hi u,.int 1 v]}).objs.size:=by simpa using f
  subst e;exact a.ng (aJ _) (a.ar.fresh (aJ _))
noncomputable def Q2(ta:TA):TI:=λσ H R=>ta σ H λvs H1=>∃j:Int,vs=[.int j]/\-(2 ^ 62)<=j/\j<2 ^ 62/\R (vp 0 j.toNat) H1
theorem UL{a:Expr}{ta:TA}{p pos:Pos}(c:Gl X "range")(d:X.mg "range"=none)(f:PA X [a] ta)(g:starEach [a] X.env=[(false,eval a X.env)]:=by rfl):PI X tg (.Call (.Name "range" p) [a] [] pos) (Q2 ta):=by
 intro ae s σ H R I h;refine Call_ (jB I c d boot_range (mJ (aN (f pos ae s σ H _ I h) λn o ⟨vs,H1,i,k,b⟩=>?_) g rfl));obtain⟨j,e,b,l,q⟩:=b;subst e;cases k with
 |cons r m=>
  cases m;obtain⟨t,rfl⟩:=r;exact call_range_1 (Vv i ω ω b l (by simpa using q))
def XA(wi:TI)(g:TG)(tb:TS):TS:=λD σ H=>wi σ H λJ H1=>∃W:Nat->Nat->St->Hp->Prop,(∃m,W 0 m σ H1)/\∀i m σ H,W i m σ H->
 (J.stop i H/\D.nx σ H)\/(J.go i H/\∃N:St->Hp->Prop,(∀σ' H',N σ' H'->∃m',m'<m/\W (i+1) m' σ' H')/\∀x H',J.yJ i H x H'->g x σ H' λσ2 H2=>tb {D with nx:=N,ct:=N,bk:=D.nx} σ2 H2)
def uB(fp:D1)(h:Heap):bh:=fp.filterMap λb=>(h.get? b).map λo=>(b,o)
theorem wX{fp:D1}{h:Heap}{b:Addr}{o:Obj}(a:b∈fp)(e:h.get? b=some o):(b,o)∈uB fp h:=uY.mpr ⟨b,a,by rw[e];rfl⟩
theorem Tq{fp:D1}{h:Heap}{p:Addr×Obj}(a:p∈uB fp h):p.1∈fp/\h.get? p.1=some p.2:=by
 obtain⟨b,c,e⟩:=uY.mp a;cases q:h.get? b with
 |none=>rw[q] at e;cases e
 |some o=>
  rw[q] at e;have d:(b,o)=p:=Option.some.inj e;subst d;exact⟨c,q⟩
theorem Inv.pinned{ae:bh}{σ:St}{H:Hp}{s:Shared}{fp:D1}(I:Inv X ae σ H s)(f:∀b∈fp,iA X ae H b)(g:∀b∈fp,∃o,s.heap.get? b=some o/\∀v,o.data≠ .cell v):Inv X (ae++uB fp s.heap) σ H s:=
 I.Il λp h=>(cu.mp h).elim (λz=>I.pin p (iy _ z)) λz=>by
  obtain⟨a,e⟩:=Tq z;obtain⟨f0,f1,f2,_⟩:=f p.1 a;obtain⟨o,c,d⟩:=g p.1 a;rw[e] at c;cases c;exact⟨e,f0,f1,f2,d⟩
theorem Inv.uV{ae pl:bh}{σ:St}{H:Hp}{s:Shared}(I:Inv X (ae++pl) σ H s):Inv X ae σ H s:=I.Il λp a=>I.pin p (iy _ (mK _ a))
theorem U7{iter:Expr}{body:Fu}{wi:TI}{g:TG}{tb:TS}{pos:Pos}(y:PassesOwn (model X.prog X.w) X.A X.env X.xe)(hc:X.calm=true)(hi:PI X tg iter wi)(S:PG X tg g)(c:dw X body tb)
  (U:∀x,foldedSetIterable iter X.env x=pure x:=by intro _;rfl):PS X (.For tg iter body [] pos) (XA wi g tb):=by
 intro ae s σ H D I h;refine wpAny_For (aN (hi ae s σ H _ I h) λv s1 h1=>aN h1 λV s2 h2=>?_) U;obtain⟨it,fp,O,J,H2,e,Y,T,E,f2,W,⟨m0,Z⟩,turn⟩:=h2;subst e;have j:∀{H':Hp},(∀b∈fp,H' b=none)->∀b∈fp,iA X ae H' b:=λhn b c=>⟨hn b c,(f2 b c).2⟩;refine codeAny_forLoop_any (λn s'=>∃i σ' H',Inv X ae σ' H' s'/\O i s'.heap/\(∀b∈fp,H' b=none)/\W i n σ' H') ?_ m0 ⟨0,σ,H2,Y,E,λb c=>(f2 b c).1,Z⟩;rintro n P ⟨i,k,C,Q,z,B,w3⟩;rcases turn i n k C w3 with⟨stop,qn⟩|⟨go,N,hN,step⟩
 .refine pV y (aN (T.done X rfl rfl rfl hc i ae P k C X.xe Q (j B) z stop) λr s4 ⟨F,I4⟩=>?_)
  subst F;exact u7 ⟨k,C,I4,qn⟩
 .refine pV y (aN (T.item X rfl rfl rfl hc i ae P k C X.xe Q (j B) z go) λr s4 ⟨u,F,h4⟩=>?_)
  subst F;refine pV y (aN h4 λ_ s5 ⟨x,R,I5,r5,y5,t,G⟩=>?_);have K:=I5.pinned (j G) (T.obj _ _ t);refine pV y (aN (S _ s5 k R x u _ K r5 (step x R y5)) λ_ s6 ⟨L,H6,I6,q6⟩=>?_);refine pV y (aN (c _ s6 L H6 _ I6 q6) λf M q=>?_);have again:∀{a:St} {l:Hp},Inv X (ae++uB fp s5.heap) a l M->N a l->∃m,m<n/\∃i σ' H',Inv X ae σ' H' M/\O i M.heap/\(∀b∈fp,H' b=none)/\W i m σ' H':=λ {a l} p n7=>by
   obtain⟨m',hm,w7⟩:=hN a l n7;refine⟨m',hm,i+1,a,l,p.uV,T.keep _ _ _ t λb c o e=>(p.pin (b,o) (iy _ (iy _ (wX c e)))).1,λb c=>?_,w7⟩;obtain⟨o,e,d⟩:=T.obj _ _ t b c;exact(p.pin (b,o) (iy _ (iy _ (wX c e)))).2.1
  cases f with
  |next=>obtain⟨a,l,p,n7⟩:=q;exact again p n7
  |cont=>obtain⟨a,l,p,n7⟩:=q;exact again p n7
  |brk=>obtain⟨a,l,p,q⟩:=q;exact⟨a,l,p.uV,q⟩
  |ret v=>obtain⟨x7,a,l,p,r7,q⟩:=q;exact⟨x7,a,l,p.uV,r7,q⟩
end
abbrev R2:=V->V->Hp->VK->Prop
def bI(X:Cx)(f:Value->Value->Sem Value)(r:R2):Prop:=
 ∀(ae:bh) (s:Shared) (σ:St) (H:Hp) (x y:V) (v u:Value) (Q:VK),Inv X ae σ H s->RelV x v->RelV y u->r x y H Q->
  wpAny (model X.prog X.w) X.A (f v u) (EP X ae σ Q) X.xe s
def zN(X:Cx)(f:Value->Sem Value)(r:V->Hp->VK->Prop):Prop:=
 ∀(ae:bh) (s:Shared) (σ:St) (H:Hp) (x:V) (v:Value) (Q:VK),Inv X ae σ H s->RelV x v->r x H Q->
  wpAny (model X.prog X.w) X.A (f v) (EP X ae σ Q) X.xe s
def eG(X:Cx)(f:Value)(r:Bn->Hp->VK->Prop):Prop:=
 ∀(ae:bh) (s:Shared) (σ:St) (H:Hp) (xs:Bn) (us:BM) (Q:VK),Inv X ae σ H s->Vals xs us->r xs H Q->
  wpAny (model X.prog X.w) X.A (call f us) (EP X ae σ Q) X.xe s
def uQ(r:R2)(ta tb:TE):TE:=λσ H Q=>ta σ H λx H1=>tb σ H1 λy H2=>r x y H2 Q
def XY(r:V->Hp->VK->Prop)(ta:TE):TE:=λσ H Q=>ta σ H λx H1=>r x H1 Q
def rI(C:Int->Int->Prop)(g:Int->Int->V):R2:=λx y H Q=>∃i j,x=.int i/\y=.int j/\C i j/\Q (g i j) H
def jF(g:Int->Int->V):R2:=λx y H Q=>∃i j,x=.int i/\y=.int j/\Q (g i j) H
def rU(g:Int->V):V->Hp->VK->Prop:=λx H Q=>∃i,x=.int i/\Q (g i) H
section
variable{a b c:Expr}{ta tb tc:TE}{pos:Pos}
theorem zU(g:PE X a ta)(i:PE X b tb){ae:bh}{s:Shared}{σ:St}{H:Hp}{R:V->V->Hp->Prop}(I:Inv X ae σ H s)
  (h:ta σ H λx H1=>tb σ H1 λy H2=>R x y H2){Q:aR}{f:Value->Value->Sem Value}
  (j:∀v u e x y H2,Inv X ae σ H2 e->RelV x v->RelV y u->R x y H2->wpAny (model X.prog X.w) X.A (f v u) Q X.xe e):
  wpAny (model X.prog X.w) X.A (eval a X.env) (λv c=>wpAny (model X.prog X.w) X.A (eval b X.env) (λu d=>wpAny (model X.prog X.w) X.A (f v u) Q X.xe d) X.xe c) X.xe s:=by
 refine aN (g ae s σ H _ I h) λv k ⟨x,H1,l,m,n⟩=> ?_
 refine aN (i ae k σ H1 _ l n) λu e ⟨y,H2,o,p,q⟩=> ?_
 exact j v u e x y H2 o m p q
theorem Uz{op:Operator}{r:R2}(c:bI X (binaryOp op) r)(d:PE X a ta)(e:PE X b tb):PE X (.BinOp a op b pos) (uQ r ta tb):=by
 intro ae s σ H Q I h;exact wpAny_BinOp (zU d e I h λv u f x y H2 g i j q=>c ae f σ H2 x y v u Q g i j q)
theorem UE{op:UnaryOp}{r:V->Hp->VK->Prop}(b:zN X (unaryOp op) r)(c:PE X a ta):PE X (.UnaryOp op a pos) (XY r ta):=by
 intro ae s σ H Q I h;exact UnaryOp_ (aN (c ae s σ H _ I h) λv d ⟨x,H1,e,f,g⟩=>b ae d σ H1 x v Q e f g)
theorem BL{f:Value->Value->Sem Value}{C:Int->Int->Prop}{g:Int->Int->Int}
  (rule:∀(i j:Int) (t u:Tok) (s:Shared) (Q:aR) (E:aR),C i j->Q (.int (g i j) s.toks) {s with toks:=s.toks+1}->wpAny (model X.prog X.w) X.A (f (.int i t) (.int j u)) Q E s):
  bI X f (rI C λi j=>.int (g i j)):=by
 intro ae s σ H x y v u Q I a b h;obtain⟨i,j,rfl,rfl,hc,q⟩:=h;obtain⟨t,rfl⟩:=a;obtain⟨t',rfl⟩:=b;exact rule i j t t' s _ _ hc ⟨.int (g i j),H,I.tok _,⟨_,rfl⟩,q⟩
theorem HX{f:Value->Value->Sem Value}{g:Int->Int->Int}
  (rule:∀(i j:Int) (t u:Tok) (s:Shared) (Q:aR) (E:aR),Q (.int (g i j) s.toks) {s with toks:=s.toks+1}->wpAny (model X.prog X.w) X.A (f (.int i t) (.int j u)) Q E s):
  bI X f (jF λi j=>.int (g i j)):=by
 intro ae s σ H x y v u Q I a b h;obtain⟨i,j,rfl,rfl,q⟩:=h;obtain⟨t,rfl⟩:=a;obtain⟨t',rfl⟩:=b;exact rule i j t t' s _ _ ⟨.int (g i j),H,I.tok _,⟨_,rfl⟩,q⟩
theorem BK{f:Value->Value->Sem Value}{g:Int->Int->Bool}
  (rule:∀(i j:Int) (t u:Tok) (s:Shared) (Q:aR) (E:aR),Q (.bool (g i j)) s->wpAny (model X.prog X.w) X.A (f (.int i t) (.int j u)) Q E s):
  bI X f (jF λi j=>.bl (g i j)):=by
 intro ae s σ H x y v u Q I a b h;obtain⟨i,j,rfl,rfl,q⟩:=h;obtain⟨t,rfl⟩:=a;obtain⟨t',rfl⟩:=b;exact rule i j t t' s _ _ ⟨.bl (g i j),H,I,rfl,q⟩
def vh(i j:Int):Prop:=(-(2 ^ 64)<i/\i<2 ^ 64)\/(-(2 ^ 64)<j/\j<2 ^ 64)
theorem vh.ok{i j:Int}(h:vh i j):IntMulOk i j:=by
 rcases h with⟨h1,h2⟩|⟨h1,h2⟩
 .exact .of_left (intBits_le_64 h1 h2)
 .exact .of_right (intBits_le_64 h1 h2)
theorem Tv:bI X (binaryOp .Add) (jF λi j=>.int (i+j)):=HX λ_ _ _ _ _ _ _ q=>add_int q
theorem Ua:bI X (binaryOp .Sub) (jF λi j=>.int (i - j)):=HX λ_ _ _ _ _ _ _ q=>sub_int q
theorem T4:bI X (binaryOp .Mult) (rI vh λi j=>.int (i*j)):=BL λ_ _ _ _ _ _ _ hc q=>mul_int q hc.ok
theorem T3:bI X (binaryOp .Mod) (rI (λ_ j=>0<j) λi j=>.int (i%j)):=BL λi j _ _ _ _ _ hc q=>by
 have h1:(0:Int)<j:=hc;exact mod_int' ω (by rw[Int.fmod_eq_emod_of_nonneg i ω];exact q)
theorem Yt{f:Value->Sem Value}{g:Int->Int}
  (rule:∀(i:Int) (t:Tok) (s:Shared) (Q:aR) (E:aR),Q (.int (g i) s.toks) {s with toks:=s.toks+1}->wpAny (model X.prog X.w) X.A (f (.int i t)) Q E s):
  zN X f (rU λi=>.int (g i)):=by
 intro ae s σ H x v Q I a h;obtain⟨i,rfl,q⟩:=h;obtain⟨t,rfl⟩:=a;exact rule i t s _ _ ⟨.int (g i),H,I.tok _,⟨_,rfl⟩,q⟩
theorem Yu:zN X (unaryOp .USub) (rU λi=>.int (-i)):=Yt λ_ _ _ _ _ q=>neg_int q
end
noncomputable def Ks:V->V->Bool
 |.aG,.aG=>true|.aG,.int _=>true|.int _,.aG=>true|.aG,.bl _=>true|.bl _,.aG=>true|.aG,.str _=>true|.str _,.aG=>true
 |.int _,.int _=>true|.bl _,.bl _=>true|.str _,.str _=>true|.jV _,.jV _=>true
 |.int _,.str _=>true|.str _,.int _=>true|.bl _,.str _=>true|.str _,.bl _=>true
 |_,_=>false
def B4:R2:=λx y H Q=>Ks x y=true/\Q (.bl (decide (x=y))) H
def B7:R2:=λx y H Q=>Ks x y=true/\Q (.bl (!decide (x=y))) H
theorem Fg{i j:Int}:decide (V.int i=V.int j)=(i==j):=by
 rw[nI];simp
theorem Fe{i j:Bool}:decide (V.bl i=V.bl j)=(i==j):=by
 rw[nI];simp
theorem Fi{i j:Str}:decide (V.str i=V.str j)=(i==j):=by
 rw[nI];simp
theorem Ff{i j:Array UInt8}:decide (V.jV i=V.jV j)=(i.toList==j.toList):=by
 rw[nI];cases i;cases j;simp
section
variable{a b c:Expr}{ta tb tc:TE}{pos:Pos}
theorem c8{ae:bh}{σ:St}{H:Hp}{s:Shared}{Q:VK}{k a:Bool}(I:Inv X ae σ H s)(q:Q (.bl k) H)(e:k=a):EP X ae σ Q (.bool a) s:=by
 subst e;exact⟨.bl k,H,I,rfl,q⟩
theorem TM:bI X (compareOp .Eq) B4:=by
 intro ae s σ H x y v u Q I c a h;obtain⟨b,q⟩:=h;cases x with
 |aG=>
  cases c;cases y with
  |aG=>cases a;exact PySem.EqNone.eq_none_none (c8 I q θ)
  |bl j=>cases a;exact PySem.EqNone.eq_none_bool (c8 I q θ)
  |int j=>obtain⟨t',rfl⟩:=a;exact PySem.EqNone.eq_none_int (c8 I q θ)
  |str j=>obtain⟨t',rfl⟩:=a;exact PySem.EqNone.eq_none_str (c8 I q θ)
  |_=>exact absurd (show false=true from b) cF
 |bl i=>
  cases c;cases y with
  |aG=>cases a;exact PySem.EqNone.eq_bool_none (c8 I q θ)
  |bl j=>cases a;exact eq_bool (c8 I q Fe)
  |str j=>obtain⟨t',rfl⟩:=a;exact PySem.EqMixed.eq_bool_str (c8 I q θ)
  |_=>exact absurd (show false=true from b) cF
 |int i=>
  obtain⟨t,rfl⟩:=c;cases y with
  |aG=>cases a;exact PySem.EqNone.eq_int_none (c8 I q θ)
  |int j=>obtain⟨t',rfl⟩:=a;exact eq_int (c8 I q Fg)
  |str j=>obtain⟨t',rfl⟩:=a;exact PySem.EqMixed.eq_int_str (c8 I q θ)
  |_=>exact absurd (show false=true from b) cF
 |str i=>
  obtain⟨t,rfl⟩:=c;cases y with
  |aG=>cases a;exact PySem.EqNone.eq_str_none (c8 I q θ)
  |bl j=>cases a;exact PySem.EqMixed.eq_str_bool (c8 I q θ)
  |int j=>obtain⟨t',rfl⟩:=a;exact PySem.EqMixed.eq_str_int (c8 I q θ)
  |str j=>obtain⟨t',rfl⟩:=a;exact eq_str (c8 I q Fi)
  |_=>exact absurd (show false=true from b) cF
 |jV i=>
  obtain⟨t,rfl⟩:=c;cases y with
  |jV j=>obtain⟨t',rfl⟩:=a;exact PySem.W.eq_bytes (c8 I q Ff)
  |_=>exact absurd (show false=true from b) cF
 |_=>cases y<;>exact absurd (show false=true from b) cF
theorem T5:bI X (compareOp .NotEq) B7:=by
 intro ae s σ H x y v u Q I c a h;obtain⟨b,q⟩:=h;cases x with
 |aG=>
  cases c;cases y with
  |aG=>cases a;exact PySem.EqNone.ne_none_none (c8 I q θ)
  |bl j=>cases a;exact PySem.EqNone.ne_none_bool (c8 I q θ)
  |int j=>obtain⟨t',rfl⟩:=a;exact PySem.EqNone.ne_none_int (c8 I q θ)
  |str j=>obtain⟨t',rfl⟩:=a;exact PySem.EqNone.ne_none_str (c8 I q θ)
  |_=>exact absurd (show false=true from b) cF
 |bl i=>
  cases c;cases y with
  |aG=>cases a;exact PySem.EqNone.ne_bool_none (c8 I q θ)
  |bl j=>cases a;exact ne_bool (c8 I q (cB not Fe))
  |str j=>obtain⟨t',rfl⟩:=a;exact PySem.EqMixed.ne_bool_str (c8 I q θ)
  |_=>exact absurd (show false=true from b) cF
 |int i=>
  obtain⟨t,rfl⟩:=c;cases y with
  |aG=>cases a;exact PySem.EqNone.ne_int_none (c8 I q θ)
  |int j=>obtain⟨t',rfl⟩:=a;exact ne_int (c8 I q (cB not Fg))
  |str j=>obtain⟨t',rfl⟩:=a;exact PySem.EqMixed.ne_int_str (c8 I q θ)
  |_=>exact absurd (show false=true from b) cF
 |str i=>
  obtain⟨t,rfl⟩:=c;cases y with
  |aG=>cases a;exact PySem.EqNone.ne_str_none (c8 I q θ)
  |bl j=>cases a;exact PySem.EqMixed.ne_str_bool (c8 I q θ)
  |int j=>obtain⟨t',rfl⟩:=a;exact PySem.EqMixed.ne_str_int (c8 I q θ)
  |str j=>obtain⟨t',rfl⟩:=a;exact ne_str (c8 I q (cB not Fi))
  |_=>exact absurd (show false=true from b) cF
 |jV i=>
  obtain⟨t,rfl⟩:=c;cases y with
  |jV j=>obtain⟨t',rfl⟩:=a;exact PySem.W.ne_bytes (c8 I q (cB not Ff))
  |_=>exact absurd (show false=true from b) cF
 |_=>cases y<;>exact absurd (show false=true from b) cF
theorem TY:bI X (compareOp .Lt) (jF λi j=>.bl (decide (i<j))):=BK λ_ _ _ _ _ _ _ q=>lt_int q
theorem TV:bI X (compareOp .LtE) (jF λi j=>.bl (decide (i<=j))):=BK λ_ _ _ _ _ _ _ q=>le_int q
theorem HY:bI X (compareOp .Gt) (jF λi j=>.bl (decide (j<i))):=BK λ_ _ _ _ _ _ _ q=>gt_int q
theorem TZ:bI X (compareOp .Lt) (λx y H Q=>∃i j,x=.str i/\y=.str j/\Q (.bl (decide (i.cps.toList<j.cps.toList))) H):=by
 intro ae s σ H x y v u Q I a b h;obtain⟨i,j,rfl,rfl,q⟩:=h;obtain⟨t,rfl⟩:=a;obtain⟨t',rfl⟩:=b;exact lt_str (c8 I q rfl)
theorem TU:bI X (compareOp .Is) (λx y H Q=>y=.aG/\Q (.bl (decide (x=.aG))) H):=by
 intro ae s σ H x y v u Q I a b h;obtain⟨rfl,q⟩:=h;cases b;refine is_none_gen (c8 I q ?_);cases x<;>first
  |(cases a;rfl)
  |(obtain⟨t,rfl⟩:=a;rfl)
theorem T8:bI X (compareOp .IsNot) (λx y H Q=>y=.aG/\Q (.bl (!decide (x=.aG))) H):=by
 intro ae s σ H x y v u Q I a b h;obtain⟨rfl,q⟩:=h;cases b;refine isnot_none_gen (c8 I q ?_);cases x<;>first
  |(cases a;rfl)
  |(obtain⟨t,rfl⟩:=a;rfl)
theorem bI.or{f:Value->Value->Sem Value}{r r':R2}(h:bI X f r)(h':bI X f r'):bI X f (λx y H Q=>r x y H Q\/r' x y H Q):=by
 intro ae s σ H x y v u Q I a b q;rcases q with q|q
 .exact h ae s σ H x y v u Q I a b q
 .exact h' ae s σ H x y v u Q I a b q
theorem mh(b:Expr){op:CmpOp}(h:op≠ .In:=by decide)(h2:op≠ .NotIn:=by decide):behindInMarks op b=false:=by
 have a:(op==CmpOp.In)=false:=by cases op<;>first|rfl|exact absurd rfl h
 have c:(op==CmpOp.NotIn)=false:=by cases op<;>first|rfl|exact absurd rfl h2
 cases b<;>simp[behindInMarks,a,c]
theorem Uq{op:CmpOp}{r:R2}(c:bI X (compareOp op) r)(d:PE X a ta)(e:PE X b tb)(f:behindInMarks op b=false):PE X (.Compare a [op] [b] pos) (uQ r ta tb):=by
 intro ae s σ H Q I h;exact wpAny_Compare1 (zU d e I h λv u g x y H2 i j k q=>c ae g σ H2 x y v u Q i j k q) f
def Cv(t:TE):TT:=λσ H Q=>t σ H λx H'=>∃k,x=.bl k/\Q k H'
theorem Vh{op:CmpOp}{r:R2}(d:bI X (compareOp op) r)(f:PE X a ta)(g:PE X b tb)(i:behindInMarks op b=false):PT X (.Compare a [op] [b] pos) (Cv (uQ r ta tb)):=by
 intro ae s σ H Q I h;refine wpAny_isTrue_Compare1 (aN (f ae s σ H _ I h) λv j ⟨x,H1,l,m,n⟩=>aN (g ae j σ H1 _ l n) λu o ⟨y,H2,p,q,t⟩=>
  aN (d ae o σ H2 x y v u _ p m q t) λc D ⟨z,w,A,B,k,e,C⟩=>?_) i
 subst e;cases B;exact nN ⟨w,A,C⟩
def Cq(r r':R2)(ta tb tc:TE):TE:=λσ H Q=>ta σ H λx H1=>tb σ H1 λy H2=>r x y H2 λz H3=>∃k,z=.bl k/\
 (if k=true then tc σ H3 λw' H4=>r' y w' H4 Q else Q (.bl false) H3)
theorem Uo{op f:CmpOp}{r r':R2}(n:bI X (compareOp op) r)(g:bI X (compareOp f) r')(o:PE X a ta)(p:PE X b tb)(hc:PE X c tc)
  (q:lastMarks [op,f] [b,c]=false:=by with_unfolding_all rfl):PE X (.Compare a [op,f] [b,c] pos) (Cq r r' ta tb tc):=by
 intro ae s σ H Q I h;refine Compare_chain (aN (o ae s σ H _ I h) λv t ⟨x,H1,w,A,B⟩=>chain_link (aN (p ae t σ H1 _ w B) λu C ⟨y,H2,D,i,E⟩=>
  aN (n ae C σ H2 x y v u _ D A i E) λd F ⟨z,j,l,G,k,e,m⟩=>?_)) q
 subst e;cases G;refine nN ?_;cases k with
 |false=>exact ite_ff ⟨.bl false,j,l,rfl,m⟩
 |true=>exact ite_tt (chain_last (aN (hc ae F σ j _ l m) λJ s4 ⟨K,L,M,N,O⟩=>g ae s4 σ L y K u J Q M i N O))
theorem Vg{op f:CmpOp}{r r':R2}(n:bI X (compareOp op) r)(g:bI X (compareOp f) r')(o:PE X a ta)(p:PE X b tb)(hc:PE X c tc)
  (q:lastMarks [op,f] [b,c]=false:=by with_unfolding_all rfl):PT X (.Compare a [op,f] [b,c] pos) (Cv (Cq r r' ta tb tc)):=by
 intro ae s σ H Q I h;refine isTrue_chain (aN (o ae s σ H _ I h) λv t ⟨x,H1,w,A,B⟩=>test_link (aN (p ae t σ H1 _ w B) λu C ⟨y,H2,D,i,E⟩=>
  aN (n ae C σ H2 x y v u _ D A i E) λd F ⟨z,j,l,G,k,e,m⟩=>?_)) q
 subst e;cases G;refine nN ?_;cases k with
 |false=>
  obtain⟨Y,J,K⟩:=m;cases J;exact ite_ff ⟨j,l,K⟩
 |true=>
  refine ite_tt (test_last (aN (hc ae F σ j _ l m) λL s4 ⟨M,N,O,P,R⟩=>aN (g ae s4 σ N y M u L _ O i P R) λd' s5 ⟨Z,S,T,U,k2,V,W⟩=>?_));subst V;cases U;exact nN ⟨S,T,W⟩
theorem Y6{κ:Type}{kvs:List (κ×V)}{vs:List (κ×Value)}(r:KV kvs vs):(!vs.isEmpty)= !kvs.isEmpty:=by
 cases r<;>rfl
theorem Y7{xs:Bn}{its:BM}(r:Vals xs its):(!its.toArray.isEmpty)= !xs.isEmpty:=by
 cases r<;>simp
theorem tY:(sizeLine:Nat)<2 ^ 63:=by rw[lG];decide
theorem Tz:bI X (binaryOp .Add) (λx y H Q=>∃i j,x=.str i/\y=.str j/\i.length+j.length<=sizeLine/\Q (.str (i++j)) H):=by
 intro ae s σ H x y v u Q I a b h;obtain⟨i,j,rfl,rfl,hz,q⟩:=h;obtain⟨t,rfl⟩:=a;obtain⟨t',rfl⟩:=b;exact add_str (λt' tk=>⟨.str (i++j),H,I.tok _,⟨_,rfl⟩,q⟩) hz
theorem vals1{x:V}{a:BM}(r:Vals [x] a):∃u,a=[u]/\RelV x u:=by
 cases r with
 |cons b c=>cases c;exact⟨_,rfl,b⟩
theorem vals2{x y:V}{a:BM}(r:Vals [x,y] a):∃u b,a=[u,b]/\RelV x u/\RelV y b:=by
 cases r with
 |cons c d=>
  cases d with
  |cons e f=>cases f;exact⟨_,_,rfl,c,e⟩
end
structure zy(h:Heap)(x dx C:Addr)(mA:aA):Prop where
 obj:h.get? x=some (instObj C dx)
 ns:h.Ns1 dx mA
 ne:dx≠x
theorem Sb{h:Heap}{dx:Addr}{c:aA}(n:h.Ns1 dx c):∃d,h.get? dx=some d/\∀name,lookIn name d=some (c name):=by
 obtain⟨o,es,ep,f,hd,g,_,i⟩:=n;refine⟨o,f,λname=>?_⟩;have e:=i name;unfold nsFind findBy at e;rw[<-Array.find?_toList] at e;unfold lookIn;rw[hd];dsimp only;split
 .rename_i y q
  rw[q] at e;exact cB some e
 .rename_i q
  rw[q] at e;have a:es.toList.any (·.refKey)=false:=by
   rw[List.any_eq_false];intro y j;obtain⟨z,t,b⟩:=g y (Array.mem_toList_iff.mp j);simp[DictEntry.refKey,b]
  have k:¬es.toList.any (·.refKey)=true:=by rw[a];exact cF
  rw[ay k];exact cB some e
theorem zy.look{h:Heap}{x dx C:Addr}{b:aA}(I:zy h x dx C b):∃a,PySem.W.InstAt h x (instObj C dx) C (some a)/\∀name,lookIn name a=some (b name):=
 let ⟨a,c,hl⟩:=Sb I.ns
 ⟨a,⟨I.obj,rfl,rfl,c⟩,hl⟩
theorem jS.some_of{v:V}{o:Option Value}(r:jS (some v) o):∃u,o=some u/\RelV v u:=by
 cases o with
 |none=>exact(show False from r).elim
 |some u=>exact⟨u,rfl,r⟩
section
variable{P:Program}{w:World}{H H':Hp}{h h':Heap}{a C dx:Addr}{fs fs':List (Str×V)}
theorem Q8(ar:cZ P w H h)(e:H a=some (.ins C dx fs)):∃b,zy h a dx C b/\(∀f,jS (fs.lookup f) (b f))/\PySem.Within b (fs.map (·.1))/\fs.length<=1000/\H dx=some (.own a):=by
 obtain⟨d,z,ne,c,b,n,r,q⟩:=(show cg P w H h a (.ins C dx fs) from ar a _ e);exact⟨b,⟨c,n,ne⟩,r,q,z,d⟩
end
structure zf(K:Frag)(C:Addr):Prop where
 pg:plainGet K C Str.empty=true
 hd:PySem.W.hasDictIn K C=true
 po:PySem.W.plainOver K C=true
 sa:findIn K (.ref C) "__setattr__"=some (some (.builtin "object.__setattr__"))
theorem zf.get{K:Frag}{C:Addr}(c:zf K C)(f:Str):plainGet K C f=true:=c.pg
section
variable{ae:bh}{σ:St}{H:Hp}{s:Shared}{A:Around}{E:aR}{Q:aR}{c:Value}{b:Bool}
inductive jc(K:Frag)(H:Hp):V->Value->Prop where
 |aG:jc K H .aG (.type "NoneType")
 |bl (x:Bool):jc K H (.bl x) (.type "bool")
 |int (i:Int):jc K H (.int i) (.type "int")
 |str (x:Str):jc K H (.str x) (.type "str")
 |qJ (x:UInt64):jc K H (.qJ x) (.type "float")
 |lst {a:Addr} {xs:Bn} (e:H a=some (.lst xs)):jc K H (.ref a) (.type "list")
 |bZ {a:Addr} {o:Obj} {xs:Bn} (e:H a=some (.bZ o (.lst xs))):jc K H (.ref a) (.type "list")
 |tup {a:Addr} {xs:Bn} (e:H a=some (.tup xs)):jc K H (.ref a) (.type "tuple")
 |dK {a:Addr} {kvs:List (Key×V)} (e:H a=some (.dK kvs)):jc K H (.ref a) (.type "dict")
 |dT {a:Addr} {kvs:List (Ee×V)} (e:H a=some (.dT kvs)):jc K H (.ref a) (.type "dict")
 |ins {a C dx:Addr} {fs:List (Str×V)} (e:H a=some (.ins C dx fs)) (cl:zf K C) (ha:findIn K (.ref C) "__class__"=some (some (.builtin "object.__class__")))
  (hn:specialIn K (.builtin "object.__class__") "__get__"=some (some (.builtin "getset_descriptor.__get__"))) (htk:takesIn K (.builtin "object.__class__")=some true)
  (hm:mroIn K C (.type "object")=some true):jc K H (.ref a) (.ref C)
theorem Rc{x:V}{u t:Value}(I:Inv X ae σ H s)(d:RelV x u)(ty:jc X.K H x t)(e:kitOne X.K t c=some b)(h:∀tk,Q (.bool b) {s with toks:=tk}):
  wpAny (model X.prog X.w) A (call (.builtin "isinstance") [u,c]) Q E s:=by
 cases ty with
 |aG=>cases (show u=Value.none from d);exact i7 PySem.W.kitx_none I.e_ True.intro e (λz=>nomatch z) h
 |bl y=>cases (show u=Value.bool y from d);exact i7 PySem.W.kitx_bool I.e_ True.intro e (λz=>nomatch z) h
 |int i=>obtain⟨t,q⟩:=(show ∃t,u=Value.int i t from d);cases q;exact i7 PySem.W.kitx_int I.e_ True.intro e (λz=>nomatch z) h
 |str y=>obtain⟨t,q⟩:=(show ∃t,u=Value.str y t from d);cases q;exact i7 PySem.W.kitx_str I.e_ True.intro e (λz=>nomatch z) h
 |qJ y=>obtain⟨t,q⟩:=(show ∃t,u=Value.float y t from d);cases q;exact i7 PySem.W.kitx_float I.e_ True.intro e (λz=>nomatch z) h
 | @lst a xs f=>
  cases (show u=Value.ref a from d);obtain⟨_,_,n,_,h1⟩:=(show cg X.prog X.w H s.heap a (.lst xs) from I.ar a _ f);exact i7 kitx_list I.e_ ⟨_,h1,rfl⟩ e (λz=>nomatch z) h
 | @bZ a j xs f=>
  cases (show u=Value.ref a from d);obtain⟨_,_,_,n,_,h1⟩:=(show cg X.prog X.w H s.heap a (.bZ j (.lst xs)) from I.ar a _ f);exact i7 kitx_list I.e_ ⟨_,h1,rfl⟩ e (λz=>nomatch z) h
 | @tup a xs f=>
  cases (show u=Value.ref a from d);obtain⟨_,_,_,p⟩:=(show cg X.prog X.w H s.heap a (.tup xs) from I.ar a _ f);obtain⟨o,h1,h2,_⟩:=p.is;exact i7 kitx_tuple I.e_ ⟨o,h1,h2⟩ e (λz=>nomatch z) h
 | @dK a kvs f=>
  cases (show u=Value.ref a from d);obtain⟨_,_,vs,_,p⟩:=(show cg X.prog X.w H s.heap a (.dK kvs) from I.ar a _ f);obtain⟨o,es,ep,h1,h2,_⟩:=p;exact i7 kitx_dict I.e_ ⟨o,h1,h2.1⟩ e (λz=>nomatch z) h
 | @dT a kvs f=>
  cases (show u=Value.ref a from d);obtain⟨_,_,xs,_,o,es,ep,h1,h2,_⟩:=(show cg X.prog X.w H s.heap a (.dT kvs) from I.ar a _ f);exact i7 kitx_dict I.e_ ⟨o,h1,h2.1⟩ e (λz=>nomatch z) h
 | @ins a C dx fs f cl k l g m=>
  cases (show u=Value.ref a from d);obtain⟨r,O,_⟩:=Q8 I.ar f;obtain⟨v,J,_⟩:=O.look;exact i7 (PySem.W.kitx_own (cl.get _) cl.hd k l g m) I.e_ J e (λz=>nomatch z) h
end
structure dW(k:Nat)(A:Around):Prop where
 hd:A.handled=none
 dp:A.depth+3*k+5<recursionLimit
 un:A.units+16*k+200<cLine
theorem dW.mono{j k:Nat}{A:Around}(r:dW k A)(h:j<=k):dW j A:=⟨r.hd,by have:=r.dp;omega,by have:=r.un;omega⟩
theorem dW.deeper{k:Nat}{A:Around}(r:dW (k+1) A)(env:Env):dW k (A.deeper env):=
 ⟨r.hd,by have:=r.dp;show A.depth+1+3*k+5<_;omega,by have:=r.un;show A.units+3+16*k+200<_;omega⟩
theorem dW.depth{k:Nat}{A:Around}(r:dW k A):A.depth<recursionLimit:=by have:=r.dp;omega
theorem dW.units{k:Nat}{A:Around}(r:dW k A):A.units+64<cLine:=by have:=r.un;omega
def XG:TA:=λ_ H Q=>Q [] H
def Xv(ta:TE)(tr:TA):TA:=λσ H Q=>ta σ H λx H1=>tr σ H1 λxs H2=>Q (x::xs) H2
section
variable{e:Expr}{es:Dx}{te:TE}{t:TA}{pos:Pos}
theorem uA:PA X [] XG:=λ_ _ _ _ H Q I h=>yO ⟨[],H,I,.nil,h⟩
theorem nB(a:PE X e te)(b:PA X es t)(c:starEach (e::es) X.env=(false,eval e X.env)::starEach es X.env:=by rfl):PA X (e::es) (Xv te t):=by
 intro pos ae s σ H Q I h;rw[c];show wpAny _ _ (spliced ((false,eval e X.env)::backTo pos (starEach es X.env))) _ _ s;refine yN (aN (a ae s σ H _ I h) λu d ⟨x,H1,f,g,i⟩=>?_);exact aN (b pos ae d σ H1 _ f i) λm n ⟨xs,H2,j,k,l⟩=>⟨x::xs,H2,j,.cons g k,l⟩
def XW(t:TA):TE:=λσ H Q=>t σ H λxs H1=>xs.length<=sizeLine/\∀p,H1 p=none->Q (.ref p) (ax H1 p (.tup xs))
def XE(t:TA):TE:=λσ H Q=>t σ H λxs H1=>xs.length<=sizeLine/\∀p,H1 p=none->Q (.ref p) (ax H1 p (.lst xs))
theorem UC{d}(h:PA X es t):PE X (.Tuple es d pos) (XW t):=by
 intro ae s σ H Q I f;refine wpAny_Tuple_spliced (aN (h pos ae s σ H _ I f) λg a ⟨xs,H1,c,r,z,q⟩=>⟨by rw[<-r.length];exact z,?_⟩);have i:H1 a.heap.objs.size=none:=c.ar.fresh (aJ _);refine⟨.ref a.heap.objs.size,ax H1 a.heap.objs.size (.tup xs),c.laid (t':=a.toks) (λb u e=>bu _ e) (aJ _) ?_,rfl,q _ i⟩;exact⟨z,g,r,⟨_,cy _ rfl⟩⟩
theorem Ih(h:PA X es t):PE X (.List es pos) (XE t):=by
 intro ae s σ H Q I d;refine wpAny_List_spliced (aN (h pos ae s σ H _ I d) λf a ⟨xs,H1,c,r,z,q⟩=>⟨by rw[<-r.length];exact z,?_⟩);have g:H1 a.heap.objs.size=none:=c.ar.fresh (aJ _);refine⟨.ref a.heap.objs.size,ax H1 a.heap.objs.size (.lst xs),c.laid (t':=a.toks) (λb u e=>bu _ e) (aJ _) ?_,rfl,q _ g⟩;exact⟨z,f,0,r,cy _ rfl⟩
end
abbrev Sp:=Bn->Hp->VK->XK->Prop
abbrev i_:=Fh->Hp->Shared->XK->aR
structure qk(P:Program)(w:World)(K:Frag)(mg:aA)(base:Heap)(A:Around)(outer:Fh)(s:Shared)(H:Hp):Prop where
 frames:A.frames=some outer
 mod:Mod K mg base
 bs:∀b o,base.get? b=some o->s.heap.get? b=some o/\H b=none
 jU:base.objs.size<=s.heap.objs.size
 iS:s.heap.FunFrames base outer
 kJ:∀b∈frs outer,H b=none
 ar:cZ P w H s.heap
 bare:AllBare s.gens
def CE(outer:Fh)(P:Program)(w:World)(H:Hp)(s:Shared)(Q:VK)(u:Value)(s':Shared):Prop:=
 ∃v H',s'.os=s.os/\AllBare s'.gens/\Un (frs outer) [] H H' s.heap s'.heap/\cZ P w H' s'.heap/\RelV v u/\Q v H'
def CR(CX:i_)(outer:Fh)(P:Program)(w:World)(H:Hp)(s:Shared)(Q:VK)(E:XK)(r:Result)(s':Shared):Prop:=
 match r with
 |.ok (.ret u)=>CE outer P w H s Q u s'
 |.ok _=>False
 |.error e=>CX outer H s E e s'
structure f9(P:Program)(w:World)(K:Frag)(mg:aA)(base:Heap)(CX:i_)(k:Nat)(f:Addr)(fd:FuncData)(ps:Ap)(sp:Sp):Prop where
 len:∀vs H Q E,sp vs H Q E->vs.length=ps.length
 run:∀(A:Around) (outer:Fh) (s:Shared) (H:Hp) (args:Args) (us:BM) (vs:Bn) (Q:VK) (E:XK),dW k A->qk P w K mg base A outer s H->BindsTo s fd args (ps.zip us)->Vals vs us->sp vs H Q E->
  codeAny (model P w) A (.call (.ref f) args) (CR CX outer P w H s Q E) s
theorem f9.mono{P:Program}{w:World}{K:Frag}{mg:aA}{base:Heap}{CX:i_}{j k:Nat}{f:Addr}{fd:FuncData}{ps:Ap}{sp:Sp}(F:f9 P w K mg base CX j f fd ps sp)(h:j<=k):
 f9 P w K mg base CX k f fd ps sp:=⟨F.len,λA outer s H args a vs Q E b=>F.run A outer s H args a vs Q E (b.mono h)⟩
theorem f9.imp{P:Program}{w:World}{K:Frag}{mg:aA}{base:Heap}{CX:i_}{k:Nat}{f:Addr}{fd:FuncData}{ps:Ap}{sp a:Sp}(F:f9 P w K mg base CX k f fd ps sp)
  (h:∀vs H Q E,a vs H Q E->sp vs H Q E):f9 P w K mg base CX k f fd ps a:=
 ⟨λvs H Q E q=>F.len vs H Q E (h _ _ _ _ q),λA outer s H args b vs Q E c d e g i=>F.run A outer s H args b vs Q E c d e g (h _ _ _ _ i)⟩
section
variable{ae:bh}{σ:St}{H:Hp}{s s':Shared}
theorem Inv.FO(I:Inv X ae σ H s):qk X.prog X.w X.K X.mg X.base X.A X.stack s H:=
 ⟨I.ok.frames,I.ok.mod,I.bs,dF I.ok.jU I.sz,I.stack,I.Ck,I.ar,I.bare⟩
theorem Inv.after{Q:VK}{u:Value}(I:Inv X ae σ H s)(h:CE X.stack X.prog X.w H s Q u s'):EP X ae σ Q u s':=by
 obtain⟨v,H',os,bare,un,ar,r,q⟩:=h;obtain⟨c,g,d,t,a⟩:=s';obtain rfl:a=s.os:=os;exact⟨v,H',I.call (h':=c) (g':=g) (d':=d) (t':=t) (ch:=[]) un ar bare (λb z=>absurd z θ),r,q⟩
end
def Cp(sp:Sp)(lW:Bn)(E:XK)(t:TA):TE:=λσ H Q=>t σ H λvs H1=>sp (vs++lW) H1 Q E
def Binds(K:Frag)(fd:FuncData)(ps:Ap)(ds:BM):Prop:=
 ∀(s:Shared) (us:BM),K.In s.heap->(us++ds).length=ps.length->BindsTo s fd ⟨us,[]⟩ (ps.zip (us++ds))
theorem Binds.all{K:Frag}{fd:FuncData}{ps:Ap}(h:∀a:BM,a.length=ps.length->bindArgs fd ⟨a,[]⟩=pure (ps.zip a)):Binds K fd ps []:=λs a _ hl=>by
 rw[ko] at hl ⊢;exact .of_eq (h a hl)
def Passes(CX:i_)(X:Cx)(E:XK):Prop:=∀(ae:bh) (σ:St) (H:Hp) (s:Shared) (e:Value) (s':Shared),Inv X ae σ H s->CX X.stack H s E e s'->X.xe e s'
section
variable{CX:i_}{k:Nat}{f C:Addr}{fd:FuncData}{ps:Ap}{sp:Sp}{lW:Bn}{ds:BM}{E:XK}{x m:Str}{p pos apos:Pos}{e o:Expr}{es:Dx}{ta:TE}{t:TA}
theorem Jc{ae:bh}{σ:St}{H:Hp}{s:Shared}{Q:VK}{a:BM}{vs:Bn}(F:f9 X.prog X.w X.K X.mg X.base CX k f fd ps sp)(d:dW k X.A)(g:Binds X.K fd ps ds)(hd:Vals lW ds)(i:Passes CX X E)
  (I:Inv X ae σ H s)(r:Vals vs a)(h:sp (vs++lW) H Q E):wpAny (model X.prog X.w) X.A (call (.ref f) a) (EP X ae σ Q) X.xe s:=by
 have c:Vals (vs++lW) (a++ds):=r.append hd;have hl:(a++ds).length=ps.length:=by rw[<-c.length];exact F.len _ _ _ _ h
 refine wpAny_call (p_ (F.run X.A X.stack s H ⟨a,[]⟩ (a++ds) (vs++lW) Q E d I.FO (g s a I.e_ hl) c h) λr s' b=>?_);cases r with
 |error e=>exact i ae σ H s e s' I b
 |ok fl=>
  cases fl with
  |ret u=>exact I.after b
  |next=>exact False.elim b
  |brk=>exact False.elim b
  |cont=>exact False.elim b
theorem Ui(F:f9 X.prog X.w X.K X.mg X.base CX k f fd ps sp)(d:dW k X.A)(g:Gl X x)(i:X.mg x=some (.ref f))(j:keepIn X.K (.ref f)=true)(l:Binds X.K fd ps ds)(hd:Vals lW ds)(m:Passes CX X E)
  (n:PA X (e::es) t)(a:(x==("__debug__":Str))=false:=by decide)(o:starEach (e::es) X.env=(false,eval e X.env)::starEach es X.env:=by rfl)(b:(backTo pos (starEach es X.env)).any (·.1)=false:=by rfl):
  PE X (.Call (.Name x p) (e::es) [] pos) (Cp sp lW E t):=by
 intro ae s σ H Q I h;refine lH (tW I g i ?_ a);refine callWith_K (h₀:=X.base) I.ok.mod.o7 j (aN (n pos ae s σ H _ I h) λu v ⟨vs,H1,c,r,q⟩=>⟨c.e_,?_⟩) o b;exact Jc F d l hd m c r q
end
structure bq(N P:Ap)(sc:Scope):Prop where
 kind:sc.kind= .function
 co:sc.isCoroutine=false
 gen:sc.isGenerator=false
 nd:N.Nodup
 pre:N.take P.length=P
 par:∀x∈P,sc.names.lookup x=some .local\/sc.names.lookup x=some .cell
 BG:∀y∈sc.names,y.2≠ .free
theorem El{kindOf:Str->Option NameKind}{x:Str}:∀{binds:List (Str×Value)} {m:aA},(∀v,(x,v)∉binds)->bindL kindOf binds m x=m x
 |[],_,_=>rfl
 |(n,v)::r,m,h=>by
  unfold bindL;rw[El λw a=>h w (bz _ a)];split
  .have:x≠n:=by rintro rfl;exact h v bA
   simp[this]
  .rfl
theorem Ej{kindOf:Str->Option NameKind}{x:Str}:∀{binds:List (Str×Value)} {m:aA},(∀v,(x,v)∉binds)->bindC kindOf binds m x=m x
 |[],_,_=>rfl
 |(n,v)::r,m,h=>by
  unfold bindC;rw[Ej λw a=>h w (bz _ a)];split
  .rfl
  .have:x≠n:=by rintro rfl;exact h v bA
   simp[this]
theorem Ek{kindOf:Str->Option NameKind}{x:Str}{v:Value}:∀{P:Ap} {vs:BM} {i:Nat} {m:aA},P.Nodup->P[i]?=some x->vs[i]?=some v->kindOf x=some .local->
  bindL kindOf (P.zip vs) m x=some v
 |[],_,_,_,_,h,_,_=>by simp at h
 |_::_,[],_,_,_,_,h,_=>by simp at h
 |p::P,w::vs,0,m,nd,h1,h2,a=>by
  simp at h1 h2;subst h1;subst h2;show bindL kindOf ((p,w)::P.zip vs) m p=_;unfold bindL;rw[El λv b=>(lD.mp nd).1 (of_mem_zip b).1,aC a];simp
 |p::P,w::vs,i+1,m,nd,h1,h2,a=>by
  show bindL kindOf ((p,w)::P.zip vs) m x=_;unfold bindL;exact Ek (i:=i) (lD.mp nd).2 (by simpa using h1) (by simpa using h2) a
theorem Ei{kindOf:Str->Option NameKind}{x:Str}{v:Value}:∀{P:Ap} {vs:BM} {i:Nat} {m:aA},P.Nodup->P[i]?=some x->vs[i]?=some v->kindOf x≠some .local->
  bindC kindOf (P.zip vs) m x=some v
 |[],_,_,_,_,h,_,_=>by simp at h
 |_::_,[],_,_,_,_,h,_=>by simp at h
 |p::P,w::vs,0,m,nd,h1,h2,a=>by
  simp at h1 h2;subst h1;subst h2;show bindC kindOf ((p,w)::P.zip vs) m p=_;unfold bindC;rw[Ej λv b=>(lD.mp nd).1 (of_mem_zip b).1,ay a];simp
 |p::P,w::vs,i+1,m,nd,h1,h2,a=>by
  show bindC kindOf ((p,w)::P.zip vs) m x=_;unfold bindC;exact Ei (i:=i) (lD.mp nd).2 (by simpa using h1) (by simpa using h2) a
def start(N:Ap)(vs:Bn):St:=vs.map some++replicate (N.length - vs.length) none
noncomputable def cR(CX:i_)(P:Program)(w:World)(K:Frag)(mg:aA)(base:Heap)(N:Ap)(qual:Str)(scope:Scope)(f:Addr)(cd:Value)(A:Around)(outer:Fh)(s:Shared)(H:Hp)(E:XK):Cx where
 prog:=P
 w:=w
 K:=K
 mg:=mg
 base:=base
 A:=A.deeper (envOfC qual scope s.heap.objs.size f cd)
 N:=N
 s₀:=s
 H₀:=H
 env:=envOfC qual scope s.heap.objs.size f cd
 outer:=outer
 stack:=envOfC qual scope s.heap.objs.size f cd::outer
 ex:=[]
 calm:=true
 fn:=λ_=>true
 pn:=[]
 xe:=λe s'=>wpAny (model P w) (A.deeper (envOfC qual scope s.heap.objs.size f cd)) (leaving (envOfC qual scope s.heap.objs.size f cd) e) (λ_ s''=>CX outer H s E e s'') (λe' s''=>CX outer H s E e' s'') s'
theorem Eu{sc:Scope}{n:Nat}{x:Str}(h:sc.names.lookup x=some .cell):∃c,(cellsFrom n sc.names []).lookup x=some c:=by
 have q:=cellsFrom_some sc.names n [] (.inl h);exact pQ.mp q
theorem GV{CX:i_}{P:Program}{w:World}{K:Frag}{mg:aA}{base:Heap}{N ps:Ap}{qual:Str}{scope:Scope}{f:Addr}{cd:Value}{A:Around}{outer:Fh}{s o:Shared}{H:Hp}{E:XK}{m:BM}{vs:Bn}
  (S:bq N ps scope)(hd:A.handled=none)(d:qk P w K mg base A outer s H)(hl:vs.length=ps.length)(r:Vals vs m)
  (x:InCallC s s.heap.objs.size (bindL (envOfC qual scope s.heap.objs.size f cd).kindOf (ps.zip m) λ_=>none) (cellsFrom (s.heap.objs.size+1) scope.names []) (bindC (envOfC qual scope s.heap.objs.size f cd).kindOf (ps.zip m) λ_=>none) o):
  Inv (cR CX P w K mg base N qual scope f cd A outer s H E) [] (start N vs) H o:=by
 have C:ps.length<=N.length:=by have:=cB List.length S.pre;rw[nJ] at this;omega
 obtain⟨h1,tk,rfl,t⟩:=x.done
 have g:∀b:Addr,b∉(cR CX P w K mg base N qual scope f cd A outer s H E).ex:=λb z=>absurd (show b∈([]:D1) from z) θ
 refine⟨⟨d.mod,S.kind,rfl,rfl,aJ _,λy z c h1 h2=> ?_,λy hy=> ?_,λy c _ h=> ?_,λ_=>hd,Around.frames_deeper d.frames,.inr ⟨rfl,rfl⟩,λb z=>absurd z (g b),d.bs,d.jU,λb _ _=>g b,λb z=>absurd z (g b),d.iS,d.kJ⟩,
  rfl,d.bare,Un.kept t,⟨_,x.toInCall.ns,λi y v h1 h2 G=> ?_⟩,λy c h=>⟨_,x.cell y c h⟩,d.ar.fresh (aJ _),λy c h=> ?_,λp j=>absurd (show p∈([]:bh) from j) θ,d.ar.kept t,?_⟩
 .exact name_of_addr x.apart (nP h1) (nP h2)
 .have hy:scope.names.lookup y=some .cell\/scope.names.lookup y=some .free:=hy
  rcases hy with hy|hy
  .exact Eu hy
  .exact absurd rfl (S.BG _ (nP hy))
 .exact j_ (x.above y c (nP h))
 .have hi:i<vs.length:=by
   unfold start at h2
   by_cases hi:i<vs.length
   .exact hi
   .rw[qf (by simpa using hi)] at h2
    rw[zb] at h2
    split at h2<;>cases h2
  have D:vs[i]? =some v:=by
   unfold start at h2
   rw[gW (by simpa using hi),bM] at h2
   cases e:vs[i]? with
   |none=>rw[e] at h2;cases h2
   |some a=>rw[e] at h2;cases h2;rfl
  obtain⟨u,B,F⟩:=r.get D
  have j:ps[i]? =some y:=by
   rw[<-S.pre,List.getElem?_take_of_lt ω];exact h1
  have l:ps.Nodup:=by rw[<-S.pre];exact S.nd.sublist (List.take_sublist _ _)
  refine⟨u,F,?_⟩
  rcases S.par y (cS j) with k|k
  .exact .inl ⟨k,Ek l j B k⟩
  .obtain⟨c,e⟩:=Eu (n:=s.heap.objs.size+1) k
   refine .inr ⟨.inl k,c,e,?_⟩
   have q:=x.cell y c e
   rw[Ei l j B (by show scope.names.lookup y≠_;rw[k];decide)] at q
   exact q
 .exact d.ar.fresh (j_ (x.above y c (nP h)))
 .unfold start
  show _=N.length
  rw[dZ,aQ,List.length_replicate]
  omega
theorem F_{CX:i_}{P:Program}{w:World}{K:Frag}{mg:aA}{base:Heap}{k:Nat}{f:Addr}{name qual:Str}{params:Arguments}{body:Fu}{scope:Scope}{z kV doc pm a ct D:Value}{an F:Option Addr}
  {j:Array (Option Value)}{N ps:Ap}{sp:Sp}(lk:K.lookup f=some ⟨D,F,.func (fnOf name qual params body scope z kV doc pm an a ct),j⟩)(l:codeIn K a qual=true)(S:bq N ps scope)
  (len:∀vs H Q E,sp vs H Q E->vs.length=ps.length)
  (c:∀(A:Around) (outer:Fh) (s:Shared) (H:Hp) (vs:Bn) (Q:VK) (E:XK),dW k (A.deeper (envOfC qual scope s.heap.objs.size f a))->sp vs H Q E->
   ∃t,dw (cR CX P w K mg base N qual scope f a A outer s H E) body t/\t {nx:=λ_ H'=>Q .aG H',rt:=Q} (start N vs) H):
  f9 P w K mg base CX (k+1) f (fnOf name qual params body scope z kV doc pm an a ct) ps sp:=by
 refine⟨len,λA outer s H args G vs Q E m h L r i=> ?_⟩
 have hl:=len _ _ _ _ i
 have B:K.In s.heap:=h.mod.o7.keeps λb o e=>(h.bs b o e).1
 have lim:s.heap.NoLimit:=h.mod.nolimit.keeps λb o e=>(h.bs b o e).1
 have d:∀y∈ps.zip G,scope.names.lookup y.1=some .local\/(scope.names.lookup y.1=some .cell/\((cellsFrom (s.heap.objs.size+1) scope.names []).lookup y.1).isSome=true):=λ⟨n,v⟩ M=>by
  rcases S.par n (of_mem_zip M).1 with q|q
  .exact .inl q
  .exact .inr ⟨q,cellsFrom_some _ _ _ (.inl q)⟩
 refine codeAny_call_function m.depth (B _ _ lk) rfl S.co S.gen rfl (codeRec_of B l) (L _ _ _ _ ?_)
 refine wpAny_newFunctionEnv_cells S.kind d λenv O C x=> ?_
 subst O
 refine⟨lim.keeps x.toInCall.keep,codeAny_func ?_⟩
 obtain⟨t,R,T⟩:=c A outer s H vs Q E (m.deeper _) i
 have I:Inv (cR CX P w K mg base N qual scope f a A outer s H E) [] (start N vs) H C:=GV S m.hd h hl r x
 refine jK (R [] C (start N vs) H _ I T) (λfl s' g=> ?_) λe s' g=>g
 have fin:∀{σ':St} {H':Hp} {v:V} {u:Value},Inv (cR CX P w K mg base N qual scope f a A outer s H E) [] σ' H' s'->RelV v u->Q v H'->CE outer P w H s Q u s':=
  λ {σ' H' v u} J p q=>⟨v,H',J.os,J.bare,J.base,J.ar,p,q⟩
 cases fl with
 |ret u=>
  obtain⟨v,σ',H',J,p,q⟩:=g
  exact fin J p q
 |next=>
  obtain⟨σ',H',J,q⟩:=g
  exact fin (v:=V.aG) (u:=Value.none) J rfl q
 |brk=>
  obtain⟨_,_,_,q⟩:=g
  exact False.elim q
 |cont=>
  obtain⟨_,_,_,q⟩:=g
  exact False.elim q
section
variable{x:Str}{p pos:Pos}{e:Expr}{es:Dx}{t:TA}{id T:String}{r:Bn->Hp->VK->Prop}
def Co(r:Bn->Hp->VK->Prop)(t:TA):TE:=λσ H Q=>t σ H λvs H1=>r vs H1 Q
theorem yc(hc:eG X (.builtin id) r)(c:Gl X x)(d:X.mg x=none)(f:bootBuiltins x=some (.builtin id))(g:PA X (e::es) t)(i:x≠"__name__":=by decide)(a:(x==("__debug__":Str))=false:=by decide)
  (j:starEach (e::es) X.env=(false,eval e X.env)::starEach es X.env:=by rfl)(b:(backTo pos (starEach es X.env)).any (·.1)=false:=by rfl):PE X (.Call (.Name x p) (e::es) [] pos) (Co r t):=by
 intro ae s σ H Q I h;refine lH (jB I c d f ?_ i a);exact PyProof.Rows.callWith_builtin1 (aN (g pos ae s σ H _ I h) λk l ⟨vs,H1,m,n,o⟩=>hc ae l σ H1 vs k Q m n o) j b
theorem Ul(hc:eG X (.type T) r)(c:Gl X x)(d:X.mg x=none)(f:bootBuiltins x=some (.type T))(g:PA X (e::es) t)(i:x≠"__name__":=by decide)(a:(x==("__debug__":Str))=false:=by decide)
  (j:starEach (e::es) X.env=(false,eval e X.env)::starEach es X.env:=by rfl)(b:(backTo pos (starEach es X.env)).any (·.1)=false:=by rfl):PE X (.Call (.Name x p) (e::es) [] pos) (Co r t):=by
 intro ae s σ H Q I h;refine lH (jB I c d f ?_ i a);exact mJ (aN (g pos ae s σ H _ I h) λk l ⟨vs,H1,m,n,o⟩=>hc ae l σ H1 vs k Q m n o) j b
end
end L2
end
namespace HT
open PySem PyProof.Rows
section
variable{prog:Program}{w:World}{A:Around}{E:aR}{s:Shared}
theorem MS{t b:Addr}{vs ws:BM}{Q:aR}(l:IsTup s.heap t vs.toArray)(m:IsTup s.heap b ws.toArray)(i:vs≠[])
  (h1:ws=[]->Q (.ref t) s)(h2:ws≠[]->Q (.ref s.heap.objs.size) {s with heap:=s.heap.push {cls:= .type "tuple",data:= .seq (vs++ws).toArray}})
  (hsz:vs.length+ws.length<=sizeLine):wpAny (model prog w) A (binaryOp .Add (.ref t) (.ref b)) Q E s:=by
 obtain⟨⟨cls,dd,data,j⟩,g,hc,n,hd⟩:=id l
 obtain⟨⟨k,c,data2,d⟩,a,f,n2,hd2⟩:=id m
 simp only at hc hd f hd2
 subst hc hd f hd2
 have e:vs.toArray++ws.toArray=(vs++ws).toArray:=θ
 by_cases h:ws=[]
 .exact concat_meets ⟨_,g,rfl⟩ ⟨_,a,rfl⟩ noFill_tuple_add seq_tuple_add slot_tuple_add entry_tuple_add (args_tuple_add_2 _ _)
   (tuple_addW1 t b vs.toArray ws.toArray n n2 dd c j d (by simpa using i) (by simp[h])) ⟨g,a,h1 h⟩
 .refine concat_meets ⟨_,g,rfl⟩ ⟨_,a,rfl⟩ noFill_tuple_add seq_tuple_add slot_tuple_add entry_tuple_add (args_tuple_add_2 _ _)
   (tuple_addW2 t b vs.toArray ws.toArray n n2 dd c j d (by simpa using i) (by simpa using h) (by rw[bT,bT];exact hsz)) ⟨g,a,?_⟩
  rw[e]
  exact h2 h
def aZ(n d:Nat):Option Int->Nat
 |none=>d
 |some v=>if v<0 then (v+(n:Int)).toNat else min v.toNat n
theorem VS(n d:Nat)(hd:d<=n)(o:Option Int):aZ n d o<=n:=by
 cases o with
 |none=>exact hd
 |some v=>
  show(if v<0 then (v+(n:Int)).toNat else min v.toNat n)<=n;by_cases a:v<0
  .rw[aC a];omega
  .rw[ay a];exact Nat.min_le_right _ _
theorem Ey(v:Int)(n d:Nat):(if v<0 then max (v+(n:Int)) 0 else min v (n:Int))=((aZ n d (some v):Nat):Int):=by
 show(if v<0 then max (v+(n:Int)) 0 else min v (n:Int))=(((if v<0 then (v+(n:Int)).toNat else min v.toNat n):Nat):Int);by_cases a:v<0
 .simp only[aC a];omega
 .simp only[ay a];omega
theorem Mj(lo hi:Option Int)(n:Nat):Builtin.Slice.sliceAdjust lo hi 1 (n:Int)=(((aZ n 0 lo:Nat):Int),((aZ n n hi:Nat):Int)):=by
 have h1:¬((1:Int)<0):=ω
 unfold Builtin.Slice.sliceAdjust;simp only[h1,gz];refine Prod.ext ?_ ?_
 .cases lo with
  |none=>rfl
  |some v=>exact Ey v n 0
 .cases hi with
  |none=>rfl
  |some v=>exact Ey v n n
theorem US(i j:Nat):Builtin.Slice.slicePlaces (i:Int) (j:Int) 1=j - i:=by
 unfold Builtin.Slice.slicePlaces;have h1:(1:Int)>0:=ω
 simp only[h1,ly,Int.ediv_one];split<;>omega
theorem KA{v:Value}{o:Option Int}{Q:Option Int->Shared->Prop}(p:IsPart v o)(h:Q o s):wpAny (model prog w) A (Builtin.Slice.slicePartIndex v) Q E s:=by
 cases p with
 |none=>exact slicePart_none h
 |int i t=>exact slicePart_int h
theorem Kz{e:Addr}{c d:Value}{lo hi:Option Int}{n:Nat}{Q:Int×Int×Nat->Shared->Prop}(f:s.heap.IsSliceOf e c d .none)(pl:IsPart c lo)(pu:IsPart d hi)
  (h:Q (((aZ n 0 lo:Nat):Int),1,aZ n n hi - aZ n 0 lo) s):wpAny (model prog w) A (Builtin.Slice.sliceApplied (.ref e) (pure (n:Int))) Q E s:=by
 obtain⟨os,a,g,b⟩:=id f;unfold Builtin.Slice.sliceApplied Builtin.Slice.sliceFields;refine ah (ah (ki a b (x:=c) rfl (ah (ki a b (x:=d) rfl (ah (ki a b (x:=.none) rfl (aF ?_)))))));refine ah (slicePart_none ?_);show wpAny _ _ (if ((1:Int)==0)=true then _ else _) _ _ s;rw[ay δ];refine ah (KA pl (ah (KA pu (ah (aF ?_)))));show wpAny _ _ (match Builtin.Slice.sliceAdjust lo hi 1 (n:Int) with|(lo,hi)=>pure (lo,(1:Int),Builtin.Slice.slicePlaces lo hi 1)) _ _ s;rw[Mj lo hi n];show wpAny _ _ (pure (((aZ n 0 lo:Nat):Int),(1:Int),Builtin.Slice.slicePlaces ((aZ n 0 lo:Nat):Int) ((aZ n n hi:Nat):Int) 1)) _ _ s;rw[US];exact aF h
theorem UQ(xs:Array Value)(i k:Nat):((range k).filterMap λ(m:Nat)=>xs[((i:Int)+(m:Int)*1).toNat]?).toArray=((xs.toList.drop i).take k).toArray:=by
 have e:(λ(m:Nat)=>xs[((i:Int)+(m:Int)*1).toNat]?)=λm=>xs[i+m]? :=by
  funext m;have:((i:Int)+(m:Int)*1).toNat=i+m:=ω
  rw[this]
 rw[e];have:=pick_run xs i k;rw[List.filterMap_map] at this;have a:((λx=>xs[x]?)∘λx=>i+x)=λm=>xs[i+m]? :=rfl;rw[a] at this;rw[this]
theorem Qg{t c:Addr}{items:Array Value}{i j:Value}{lo hi:Option Int}{Q:aR}(b:IsTup s.heap t items)(k:s.heap.IsSliceOf c i j .none)(pl:IsPart i lo)(pu:IsPart j hi)
  (l:¬(aZ items.size 0 lo=0/\aZ items.size items.size hi=items.size))
  (h:Q (.ref s.heap.objs.size) {s with heap:=s.heap.push {cls:= .type "tuple",data:= .seq ((items.toList.drop (aZ items.size 0 lo)).take (aZ items.size items.size hi - aZ items.size 0 lo)).toArray}})
  (hsz:items.size<=sizeLine):wpAny (model prog w) A (getItem (.ref t) (.ref c)) Q E s:=by
 have a:sizeOk (.seq ((items.toList.drop (aZ items.size 0 lo)).take (aZ items.size items.size hi - aZ items.size 0 lo)).toArray):=by
  show((items.toList.drop (aZ items.size 0 lo)).take (aZ items.size items.size hi - aZ items.size 0 lo)).toArray.size<=sizeLine
  rw[bT,nJ,uW,gA]
  omega
 have o:aZ items.size items.size hi<=items.size:=VS _ _ (aJ _) hi
 obtain⟨os,d,e,n⟩:=id k
 have f:s.TypeIs (.ref c) "slice":=⟨os,d,e⟩
 unfold getItem
 try with_reducible refine gn ?_
 first|refine ah (aF ?_)|skip
 refine ah (wpAny_sequenceKey b.typeIs δ ?_)
 refine ah (nM (name:=Str.ofString "__getitem__") b.typeIs rG
  (jo rG b.typeIs entry_tuple_getitem ?_ (args_tuple_getitem _ _)))
 show wpAny _ _ (Builtin.Tuple.tupleItemsOf (.ref t)>>=_) _ _ s
 refine ah (tupleItemsOf_ b ?_)
 refine ah (lI f ?_)
 rw[aC δ]
 refine ah (Kz k pl pu ?_)
 have g:¬((((aZ items.size 0 lo:Nat):Int)==0&&(1:Int)==1&&(aZ items.size items.size hi - aZ items.size 0 lo)==items.size)=true):=by
  intro q
  rw[gE,gE] at q
  have p:((aZ items.size 0 lo:Nat):Int)=0:=sd q.1.1
  have r:aZ items.size items.size hi - aZ items.size 0 lo=items.size:=sd q.2
  exact l ⟨ω,ω⟩
 show wpAny _ _ (if (((aZ items.size 0 lo:Nat):Int)==0&&(1:Int)==1&&(aZ items.size items.size hi - aZ items.size 0 lo)==items.size)=true then _ else _) _ _ s
 rw[ay g,UQ]
 first
  |exact ah (m:=Builtin.Tuple.tupleExact _) (gD (aF ⟨_,rfl,aF h⟩) a)
  |exact ah (m:=Builtin.Tuple.tupleExact _) (gD (ah (aF (aF ⟨_,rfl,aF h⟩))) a)
  |exact ah (ah (m:=Builtin.Tuple.tupleExact _) (gD (aF (aF ⟨_,rfl,aF h⟩)) a))
  |exact ah (ah (m:=Builtin.Tuple.tupleExact _) (gD (aF ⟨_,rfl,aF h⟩) a))
end
end HT
section
open PySem PySem.Spec PyProof.Rows
namespace L2
abbrev TO:=St->Hp->(Option Int->Hp->Prop)->Prop
def PO(X:Cx)(e:Option Expr)(t:TO):Prop:=
 ∀(ae:bh) (s:Shared) (σ:St) (H:Hp) (Q:Option Int->Hp->Prop),Inv X ae σ H s->t σ H Q->
  wpAny (model X.prog X.w) X.A (evalPart e X.env) (λu s'=>∃o H',Inv X ae σ H' s'/\IsPart u o/\Q o H') X.xe s
def XH:TO:=λ_ H Q=>Q none H
def XN(t:TE):TO:=λσ H Q=>t σ H λx H1=>∃i,x=.int i/\Q (some i) H1
variable{X:Cx}
section
variable{e:Expr}{te:TE}{lo hi:Option Expr}{tl th:TO}{pos p2:Pos}
theorem UU:PO X none XH:=by
 intro ae s σ H Q I h;rw[evalPart_none];exact aF ⟨none,H,I,.none,h⟩
theorem UW(h:PE X e te):PO X (some e) (XN te):=by
 intro ae s σ H Q I a;rw[evalPart_some];refine aN (h ae s σ H _ I a) λu f ⟨x,H1,b,c,d⟩=>?_;obtain⟨i,rfl,q⟩:=d;obtain⟨t,rfl⟩:=c;exact⟨some i,H1,b,.int i t,q⟩
def mV(X:Cx)(r:V->Option Int->Option Int->Hp->VK->Prop):Prop:=
 ∀(ae:bh) (s:Shared) (σ:St) (H:Hp) (x:V) (v vl vu:Value) (lo hi:Option Int) (sl:Addr) (Q:VK),Inv X ae σ H s->RelV x v->s.heap.IsSliceOf sl vl vu .none->IsPart vl lo->IsPart vu hi->r x lo hi H Q->
  ∃T id,typeLookup (.type T) "__getitem__"=pure (some (.builtin id))/\s.TypeIs v T/\wpAny (model X.prog X.w) X.A (getItem v (.ref sl)) (EP X ae σ Q) X.xe s
theorem mV.or{r r':V->Option Int->Option Int->Hp->VK->Prop}(h:mV X r)(h':mV X r'):mV X (λx lo hi H Q=>r x lo hi H Q\/r' x lo hi H Q):=by
 intro ae s σ H x v a b lo hi c Q I d e pl pu q;rcases q with q|q
 .exact h ae s σ H x v a b lo hi c Q I d e pl pu q
 .exact h' ae s σ H x v a b lo hi c Q I d e pl pu q
def XS(r:V->Option Int->Option Int->Hp->VK->Prop)(te:TE)(tl th:TO):TE:=λσ H Q=>te σ H λx H1=>tl σ H1 λl H2=>th σ H2 λu H3=>r x l u H3 Q
theorem Ii{r:V->Option Int->Option Int->Hp->VK->Prop}(g:mV X r)(i:PE X e te)(hl:PO X lo tl)(j:PO X hi th):PE X (.Subscript e (.Slice lo hi none p2) pos) (XS r te tl th):=by
 intro ae s σ H Q I h;refine Subscript_ (aN (i ae s σ H _ I h) λv k ⟨x,H1,m,n,o⟩=>?_);refine wpAny_Slice (aN (hl ae k σ H1 _ m o) λc p ⟨l,H2,t,pl,y⟩=>aN (j ae p σ H2 _ t y) λd a ⟨u,f,z,pu,B⟩=>?_);rw[evalPart_none];refine aF ?_;have C:Inv X ae σ f {a with heap:=a.heap.push {cls:=.type "slice",data:=.fields #[c,d,.none]}}:=z.kept (t':=a.toks) λb G q=>bu _ q;obtain⟨T,id,D,E,F⟩:=g ae {a with heap:=a.heap.push {cls:=.type "slice",data:=.fields #[c,d,.none]}} σ f x v c d l u a.heap.objs.size Q C n (Heap.IsSliceOf.new ..) pl pu B;show wpAny (model X.prog X.w) X.A (subscriptTail e (.Slice lo hi none p2) v (.ref a.heap.objs.size)) (EP X ae σ Q) X.xe {a with heap:=a.heap.push {cls:=.type "slice",data:=.fields #[c,d,.none]}};exact tail_any (ops:=[.ref a.heap.objs.size,v]) E D F (by with_unfolding_all rfl)
noncomputable def mZ(xs:Bn)(lo hi:Option Int):Bn:=(xs.drop (HT.aZ xs.length 0 lo)).take (HT.aZ xs.length xs.length hi - HT.aZ xs.length 0 lo)
theorem EM(xs:Bn)(lo hi:Option Int):(mZ xs lo hi).length<=xs.length:=by
 unfold mZ;rw[nJ,uW];omega
noncomputable def Vt(K:Frag):V->Option Int->Option Int->Hp->VK->Prop:=λx lo hi H Q=>∃a xs,x=.ref a/\bL K H a xs/\
 ¬(HT.aZ xs.length 0 lo=0/\HT.aZ xs.length xs.length hi=xs.length)/\∀p,H p=none->Q (.ref p) (ax H p (.tup (mZ xs lo hi)))
theorem Ky:mV X (Vt X.K):=by
 intro ae s σ H x v j k lo hi l Q I e f pl pu h;obtain⟨a,xs,rfl,g,i,q⟩:=h;cases e;obtain⟨its,r,d,hz⟩:=I.tuple g;have c:its.toArray.size=xs.length:=by rw[bT];exact r.length.symm
 refine⟨"tuple",_,rG.lookup,d.typeIs,?_⟩;refine HT.Qg d f pl pu (by rw[c];exact i) ?_ (by rw[c];exact hz);rw[c];refine⟨.ref s.heap.objs.size,_,I.laid (t':=s.toks) (o:=.tup (mZ xs lo hi)) (λb m q=>bu _ q) (aJ _) ?_,rfl,q _ (I.ar.fresh (aJ _))⟩;exact⟨dF (EM xs lo hi) hz,_,(r.drop (HT.aZ xs.length 0 lo)).take (HT.aZ xs.length xs.length hi - HT.aZ xs.length 0 lo),lS.new _ _⟩
noncomputable def Vq(K:Frag):R2:=λx y H Q=>∃a b xs ys,x=.ref a/\y=.ref b/\bL K H a xs/\bL K H b ys/\xs≠[]/\xs.length+ys.length<=sizeLine/\
 (ys=[]->Q (.ref a) H)/\(ys≠[]->∀p,H p=none->Q (.ref p) (ax H p (.tup (xs++ys))))
theorem Vals.BF{xs:Bn}{a:BM}(r:Vals xs a):a=[]↔xs=[]:=by
 cases r with
 |nil=>simp
 |cons _ _=>simp
theorem TJ:bI X (binaryOp .Add) (Vq X.K):=by
 intro ae s σ H x y v u Q I f g h;obtain⟨a,b,xs,ys,rfl,rfl,i,j,k,hz,l,m⟩:=h;cases f;cases g;obtain⟨its,d,n,_⟩:=I.tuple i;obtain⟨e,c,p2,_⟩:=I.tuple j;refine HT.MS n p2 (λz=>k (d.BF.mp z)) (λz=>⟨.ref a,H,I,rfl,l (c.BF.mp z)⟩) (λz=>?_) (by rw[<-d.length,<-c.length];exact hz);refine⟨.ref s.heap.objs.size,_,I.laid (t':=s.toks) (o:=.tup (xs++ys)) (λb p q=>bu _ q) (aJ _) ?_,rfl,m (λw=>z (c.BF.mpr w)) _ (I.ar.fresh (aJ _))⟩;exact⟨by rw[dZ];exact hz,_,d.append c,lS.new _ _⟩
end
noncomputable def j0(n:Nat)(i:Int):Option Nat:=if 0<=i then (if i<n then some i.toNat else none) else if -(n:Int)<=i then some (i+n).toNat else none
def cV{α:Type}(xs:List α)(i:Int):Option α:=(j0 xs.length i).bind λj=>xs[j]?
theorem Ri{n:Nat}{i:Int}{j:Nat}(h:j0 n i=some j):seqIndex? i n=some j/\j<n/\-(n:Int)<=i/\i<n:=by
 unfold j0 at h;by_cases h0:0<=i
 .rw[aC h0] at h
  by_cases h1:i<n
  .rw[aC h1] at h
   have e:i.toNat=j:=Option.some.inj h;exact⟨by rw[seqIndex_of h0 h1,e],ω,ω,h1⟩
  .rw[ay h1] at h;cases h
 .rw[ay h0] at h
  by_cases h1: -(n:Int)<=i
  .rw[aC h1] at h
   have e:(i+n).toNat=j:=Option.some.inj h;exact⟨by rw[seqIndex_neg ω h1,e],ω,h1,ω⟩
  .rw[ay h1] at h;cases h
theorem zR{α:Type}{xs:List α}{i:Int}{v:α}(h:cV xs i=some v):∃j,seqIndex? i xs.length=some j/\xs[j]?=some v/\j<xs.length/\-(xs.length:Int)<=i/\i<xs.length:=by
 unfold cV at h;cases e:j0 xs.length i with
 |none=>rw[e] at h;cases h
 |some j=>
  rw[e] at h;obtain⟨h1,h2,a,b⟩:=Ri e;exact⟨j,h1,h,h2,a,b⟩
theorem mY{α:Type}{xs:List α}{j:Nat}{v:α}(h:xs[j]?=some v):cV xs (j:Int)=some v:=by
 have a:j<xs.length:=(bP.mp h).1;have e:j0 xs.length (j:Int)=some j:=by
  unfold j0;rw[aC ω,aC ω];simp
 unfold cV;rw[e];exact h
def vz(b:Expr):Prop:=∀o i,subscripted b false o i=operate [o,i] (getItem o i)
def jP(X:Cx)(r:R2):Prop:=
 ∀(value slice:Expr) (ae:bh) (s:Shared) (σ:St) (H:Hp) (x y:V) (v u:Value) (Q:VK),Inv X ae σ H s->RelV x v->RelV y u->r x y H Q->
  subscripted slice false v u=operate [v,u] (getItem v u)->wpAny (model X.prog X.w) X.A (subscriptTail value slice v u) (EP X ae σ Q) X.xe s
def zx(X:Cx)(id:String)(r:V->Bn->Hp->VK->Prop):Prop:=
 ∀(ae:bh) (s:Shared) (σ:St) (H:Hp) (x:V) (xs:Bn) (v:Value) (us:BM) (Q:VK),Inv X ae σ H s->RelV x v->Vals xs us->r x xs H Q->
  wpAny (model X.prog X.w) X.A (call (.builtin id) (v::us)) (EP X ae σ Q) X.xe s
section
variable{a b:Expr}{ta tb:TE}{pos:Pos}
theorem jP.or{r r':R2}(h:jP X r)(h':jP X r'):jP X (λx y H Q=>r x y H Q\/r' x y H Q):=by
 intro value slice ae s σ H x y v u Q I a b q c;rcases q with q|q
 .exact h value slice ae s σ H x y v u Q I a b q c
 .exact h' value slice ae s σ H x y v u Q I a b q c
theorem Ig{r:R2}(c:jP X r)(d:PE X a ta)(e:PE X b tb)(f:vz b):PE X (.Subscript a b pos) (uQ r ta tb):=by
 intro ae s σ H Q I h;exact Subscript_ (zU d e I h λv u g x y H2 i j k q=>c a b ae g σ H2 x y v u Q i j k q (f _ _))
def IP(K:Frag):R2:=λx y H Q=>∃p xs i v,x=.ref p/\y=.int i/\aU K H p xs/\cV xs i=some v/\Q v H
def IS(K:Frag):R2:=λx y H Q=>∃p xs i v,x=.ref p/\y=.int i/\bL K H p xs/\cV xs i=some v/\Q v H
noncomputable def IQ:R2:=λx y H Q=>∃z i c,x=.str z/\y=.int i/\z.length<=sizeLine/\cV z.cps.toList i=some c/\Q (.str ⟨#[c]⟩) H
theorem G0:jP X (IP X.K):=by
 intro value slice ae s σ H x y v u Q I e f h c;obtain⟨p,xs,i,z,rfl,rfl,g,k,q⟩:=h;cases e;obtain⟨t,rfl⟩:=f;obtain⟨its,r,pl,hz⟩:=I.list g;obtain⟨j,h1,h2,n,l,m⟩:=zR k;obtain⟨w,d,a⟩:=r.get h2;have hl:=r.length;have o:=tY;have fin:EP X ae σ Q w s:=⟨z,H,I,a,q⟩;by_cases h0:0<=i
 .have b:i.toNat=j:=by
   rw[seqIndex_of h0 m] at h1;exact Option.some.inj h1
  exact item_listR pl.isList h0 ω (by rw[b];simpa using d) fin c
 .have b:(i+(its.toArray.size:Int)).toNat=j:=by
   rw[seqIndex_neg ω l] at h1;rw[bT,<-hl];exact Option.some.inj h1
  exact subscriptTail_builtinR (x:=w) pl.isList.typeIs slot_list_getitem.lookup
   (wpAny_getItem_list_neg (Q:=λr s'=>r=w/\EP X ae σ Q r s') pl.isList ω (by rw[bT]<;>omega) ω (by rw[b];simpa using d) ⟨rfl,fin⟩) c
theorem Rn:jP X (IS X.K):=by
 intro value slice ae s σ H x y v u Q I b c h d;obtain⟨p,xs,i,z,rfl,rfl,e,f,q⟩:=h;cases b;obtain⟨t,rfl⟩:=c;obtain⟨its,r,pl,hz⟩:=I.tuple e;obtain⟨j,h1,h2,k,l,m⟩:=zR f;obtain⟨w,g,a⟩:=r.get h2;have hl:=r.length;have n:=tY;have fin:EP X ae σ Q w s:=⟨z,H,I,a,q⟩;exact subscriptTail_builtinR (x:=w) pl.typeIs slot_tuple_getitem.lookup
  (getItem_tuple (j:=j) (Q:=λr s'=>r=w/\EP X ae σ Q r s') pl ω ω (by rw[bT,<-hl];exact h1) (by simpa using g) ⟨rfl,fin⟩) d
theorem Rm:jP X IQ:=by
 intro value slice ae s σ H x y v u Q I a b h d;obtain⟨z,i,c,rfl,rfl,hz,e,q⟩:=h;obtain⟨t,rfl⟩:=a;obtain⟨t',rfl⟩:=b;obtain⟨j,h1,h2,m,f,g⟩:=zR e;have hl:z.cps.toList.length=z.length:=by simp[Str.length]
 rw[hl] at h1 f g;have n:=tY;exact tail_any (typeIs_str s z t) slot_str_getitem.lookup (getItem_str (c:=c) (by
  have k:decide (i< -(2 ^ 63:Int))=false:=fh ω;have l:decide (i≥2 ^ 63)=false:=fh ω;rw[k,l,yM]) (by rw[h1];simpa using h2) ⟨.str ⟨#[c]⟩,H,I.tok _,⟨_,rfl⟩,q⟩) d
def IK(K:Frag):R2:=λx y H Q=>IP K x y H Q\/IS K x y H Q\/IQ x y H Q
theorem Rk:jP X (IK X.K):=G0.or (Rn.or Rm)
theorem W5(lo hi:Option Int)(n:Nat):(sliceBounds lo hi none n).1=((HT.aZ n 0 lo:Nat):Int)/\(sliceBounds lo hi none n).2.1=((HT.aZ n n hi:Nat):Int)/\(sliceBounds lo hi none n).2.2=1:=by
 refine⟨?_,?_,rfl⟩
 .cases lo with
  |none=>simp[sliceBounds,HT.aZ]
  |some i=>
   simp only[sliceBounds,HT.aZ,getD_none,(δ:(1:Int)>0),ly];by_cases h:i<0
   .simp only[h,ly]<;>omega
   .simp only[h,gz]<;>omega
 .cases hi with
  |none=>simp[sliceBounds,HT.aZ]
  |some i=>
   simp only[sliceBounds,HT.aZ,getD_none,(δ:(1:Int)>0),ly];by_cases h:i<0
   .simp only[h,ly]<;>omega
   .simp only[h,gz]<;>omega
theorem W4(its:BM)(lo hi:Option Int):slicePick its.toArray lo hi none=((its.drop (HT.aZ its.length 0 lo)).take (HT.aZ its.length its.length hi - HT.aZ its.length 0 lo)).toArray:=by
 obtain⟨h1,h2,a⟩:=W5 lo hi its.toArray.size;unfold slicePick;rw[h1,h2,a];simp only[sliceRange_one,pick_run,bT]<;>rfl
noncomputable def Vs(K:Frag):V->Option Int->Option Int->Hp->VK->Prop:=λx lo hi H Q=>∃a xs,x=.ref a/\aU K H a xs/\∀p,H p=none->Q (.ref p) (ax H p (.lst (mZ xs lo hi)))
theorem W2:mV X (Vs X.K):=by
 intro ae s σ H x v i j lo hi k Q I e f pl pu h;obtain⟨a,xs,rfl,g,q⟩:=h;cases e;obtain⟨its,r,d,hz⟩:=I.list g;have c:=r.length;refine⟨"list",_,slot_list_getitem.lookup,d.isList.typeIs,?_⟩;refine wpAny_getItem_list_slice d.isList f pl pu .none θ ?_ (by rw[bT]<;>omega);rw[W4,<-c];refine⟨.ref s.heap.objs.size,_,I.laid (t':=s.toks) (o:=.lst (mZ xs lo hi)) (λb l q=>bu _ q) (aJ _) ?_,rfl,q _ (I.ar.fresh (aJ _))⟩;exact⟨dF (EM xs lo hi) hz,_,0,(r.drop (HT.aZ xs.length 0 lo)).take (HT.aZ xs.length xs.length hi - HT.aZ xs.length 0 lo),cy _ rfl⟩
def kI:V->Bool
 |.aG=>true
 |.bl _=>true
 |.int _=>true
 |.str _=>true
 |_=>false
noncomputable def jx:V->V->Bool
 |.aG,.aG=>true
 |.bl a,.bl b=>a==b
 |.bl a,.int b=>(if a then 1 else 0)==b
 |.int a,.bl b=>a==(if b then 1 else 0)
 |.int a,.int b=>a==b
 |.str a,.str b=>a==b
 |_,_=>false
theorem OA{A:Around}{s:Shared}{y x:V}{u v:Value}(d:RelV y u)(c:RelV x v)(f:kI y=true)(e:kI x=true):SeqAt.EqAt A s u v (jx y x):=by
 cases y with
 |aG=>
  cases d;cases x with
  |aG=>cases c;exact SeqAt.EqAt.same _
  |bl b=>cases c;exact SeqAt.EqAt.none_bool b
  |int b=>obtain⟨t,rfl⟩:=c;exact SeqAt.EqAt.none_int b t
  |str b=>obtain⟨t,rfl⟩:=c;exact SeqAt.EqAt.none_str b t
  |_=>exact absurd (show false=true from e) cF
 |bl a=>
  cases d;cases x with
  |aG=>cases c;exact SeqAt.EqAt.bool_none a
  |bl b=>cases c;exact SeqAt.EqAt.bool_bool a b
  |int b=>obtain⟨t,rfl⟩:=c;exact SeqAt.EqAt.bool_int a b t
  |str b=>obtain⟨t,rfl⟩:=c;exact SeqAt.EqAt.bool_str a b t
  |_=>exact absurd (show false=true from e) cF
 |int a=>
  obtain⟨t',rfl⟩:=d;cases x with
  |aG=>cases c;exact SeqAt.EqAt.int_none a t'
  |bl b=>cases c;exact SeqAt.EqAt.int_bool a t' b
  |int b=>obtain⟨t,rfl⟩:=c;exact SeqAt.EqAt.int_int a t' b t
  |str b=>obtain⟨t,rfl⟩:=c;exact SeqAt.EqAt.int_str a t' b t
  |_=>exact absurd (show false=true from e) cF
 |str a=>
  obtain⟨t',rfl⟩:=d;cases x with
  |aG=>cases c;exact SeqAt.EqAt.str_none a t'
  |bl b=>cases c;exact SeqAt.EqAt.str_bool a t' b
  |int b=>obtain⟨t,rfl⟩:=c;exact SeqAt.EqAt.str_int a t' b t
  |str b=>obtain⟨t,rfl⟩:=c;exact SeqAt.EqAt.str_str a t' b t
  |_=>exact absurd (show false=true from e) cF
 |_=>exact absurd (show false=true from f) cF
noncomputable def iE(x:V)(u:Value):Bool:=match u with
 |.none=>jx .aG x
 |.bool b=>jx (.bl b) x
 |.int i _=>jx (.int i) x
 |.str z _=>jx (.str z) x
 |_=>false
theorem FP{x y:V}{u:Value}(r:RelV y u)(f:kI y=true):iE x u=jx y x:=by
 cases y with
 |aG=>cases r;rfl
 |bl b=>cases r;rfl
 |int i=>obtain⟨t,rfl⟩:=r;rfl
 |str z=>obtain⟨t,rfl⟩:=r;rfl
 |_=>exact absurd (show false=true from f) cF
theorem sP{x:V}:∀{xs:Bn} {a:BM},Vals xs a->xs.all kI=true->a.any (iE x)=xs.any λy=>jx y x
 |_,_,.nil,_=>rfl
 |y::xs,u::a,.cons r t,f=>by
  rw[List.all_cons,gE] at f;rw[p8,p8,FP r f.1,sP t f.2]
theorem t9{A:Around}{s:Shared}{x:V}{v:Value}(b:RelV x v)(c:kI x=true):∀{xs:Bn} {a:BM},Vals xs a->xs.all kI=true->∀u∈a,SeqAt.EqAt A s u v (iE x u)
 |_,_,.nil,_=>λu hu=>by cases hu
 |y::xs,u::a,.cons r t,f=>λd hu=>by
  rw[List.all_cons,gE] at f;rcases bx.mp hu with rfl|hu
  .rw[FP r f.1];exact OA r b f.1 c
  .exact t9 b c t f.2 d hu
def wG(x:V)(xs:Bn):Bool:=xs.any λy=>jx y x
noncomputable def B6(K:Frag)(neg:Bool):R2:=λx y H Q=>∃p xs,y=.ref p/\(aU K H p xs\/bL K H p xs)/\kI x=true/\xs.all kI=true/\Q (.bl (if neg then !wG x xs else wG x xs)) H
theorem TR:bI X (compareOp .In) (B6 X.K false):=by
 intro ae s σ H x y v u Q I b d h;obtain⟨p,xs,rfl,hq,c,fs,q⟩:=h;cases d;rcases hq with hq|hq
 .obtain⟨its,r,pl,hz⟩:=I.list hq
  refine SeqAt.in_listAt (iE x) pl.isList (λw a=>t9 b c r fs w (by simpa using a)) ⟨.bl _,H,I,rfl,?_⟩;rw[(θ:its.toArray.any (iE x)=its.any (iE x)),sP r fs];exact q
 .obtain⟨its,r,pl,hz⟩:=I.tuple hq
  refine SeqAt.in_tupleAt (iE x) pl (λw a=>t9 b c r fs w (by simpa using a)) ⟨.bl _,H,I,rfl,?_⟩;rw[(θ:its.toArray.any (iE x)=its.any (iE x)),sP r fs];exact q
theorem T7:bI X (compareOp .NotIn) (B6 X.K true):=by
 intro ae s σ H x y v u Q I b d h;obtain⟨p,xs,rfl,hq,c,fs,q⟩:=h;cases d;rcases hq with hq|hq
 .obtain⟨its,r,pl,hz⟩:=I.list hq
  refine SeqAt.notIn_listAt (iE x) pl.isList (λw a=>t9 b c r fs w (by simpa using a)) ⟨.bl _,H,I,rfl,?_⟩;rw[(θ:its.toArray.any (iE x)=its.any (iE x)),sP r fs];exact q
 .obtain⟨its,r,pl,hz⟩:=I.tuple hq
  refine SeqAt.notIn_tupleAt (iE x) pl (λw a=>t9 b c r fs w (by simpa using a)) ⟨.bl _,H,I,rfl,?_⟩;rw[(θ:its.toArray.any (iE x)=its.any (iE x)),sP r fs];exact q
theorem MG:eG X (.builtin "len") (λxs H Q=>∃p ys,xs=[.ref p]/\(aU X.K H p ys\/bL X.K H p ys)/\Q (.int ys.length) H):=by
 intro ae s σ H xs c Q I r h;obtain⟨p,ys,rfl,hq,q⟩:=h;obtain⟨u,rfl,b⟩:=vals1 r;cases b;have d:=tY;rcases hq with hq|hq
 .obtain⟨its,r',pl,hz⟩:=I.list hq
  have a:=r'.length;exact Calls.call_len_list pl.isList (by simp only[bT]<;>omega) ⟨.int ys.length,H,I.tok _,⟨s.toks+1,by rw[bT,a]⟩,q⟩
 .obtain⟨its,r',pl,hz⟩:=I.tuple hq
  have a:=r'.length;exact len_tuple pl (by simp only[bT]<;>omega) ⟨.int ys.length,H,I.tok _,⟨s.toks+1,by rw[bT,a]⟩,q⟩
theorem MH:eG X (.builtin "len") (λxs H Q=>∃z,xs=[.str z]/\z.length<=sizeLine/\Q (.int z.length) H):=by
 intro ae s σ H xs a Q I r h;obtain⟨z,rfl,hz,q⟩:=h;obtain⟨u,rfl,t,rfl⟩:=vals1 r;have b:=tY;exact len_str ω ⟨.int z.length,H,I.tok _,⟨_,rfl⟩,q⟩
theorem eG.or{f:Value}{r r':Bn->Hp->VK->Prop}(h:eG X f r)(h':eG X f r'):eG X f (λxs H Q=>r xs H Q\/r' xs H Q):=by
 intro ae s σ H xs a Q I rs q;rcases q with q|q
 .exact h ae s σ H xs a Q I rs q
 .exact h' ae s σ H xs a Q I rs q
theorem Ep:eG X (.type "list") (λxs H Q=>∃p ys,xs=[.ref p]/\(aU X.K H p ys\/bL X.K H p ys)/\∀l,H l=none->Q (.ref l) (ax H l (.lst ys))):=by
 intro ae s σ H xs f Q I r h;obtain⟨p,ys,rfl,hq,q⟩:=h;obtain⟨u,rfl,d⟩:=vals1 r;cases d;have fin:∀(its:BM),Vals ys its->ys.length<=sizeLine->∀(h':Heap) (c':Nat),(∀b o',s.heap.get? b=some o'->h'.get? b=some o')->
   h'.get? s.heap.objs.size=some {cls:=.type "list",dict:=none,data:=.seq its.toArray c',slots:= #[]}->EP X ae σ Q (.ref s.heap.objs.size) {s with heap:=h'}:=λits r' hz h' c' kp e=>
  ⟨.ref s.heap.objs.size,_,I.laid (t':=s.toks) kp (aJ _) (show cg X.prog X.w _ h' _ (.lst ys) from⟨hz,its,c',r',e⟩),rfl,q _ (I.ar.fresh (aJ _))⟩
 rcases hq with hq|hq
 .obtain⟨its,r',pl,hz⟩:=I.list hq
  have a:=r'.length;obtain⟨o,c,hc,n,hd⟩:=pl.isList;exact call_list_seq p (.inl rfl) c hc hd (λh' c' kp e=>fin its r' hz h' c' kp e) (by simp only[bT]<;>omega)
 .obtain⟨its,r',pl,hz⟩:=I.tuple hq
  have a:=r'.length;obtain⟨o,c,hc,n,hd⟩:=pl;exact call_list_seq p (.inr rfl) c hc hd (λh' c' kp e=>fin its r' hz h' c' kp e) (by simp only[bT]<;>omega)
theorem Es:eG X (.type "tuple") (λxs H Q=>∃p ys,xs=[.ref p]/\((aU X.K H p ys/\∀l,H l=none->Q (.ref l) (ax H l (.tup ys)))\/(bL X.K H p ys/\Q (.ref p) H))):=by
 intro ae s σ H xs i Q I r h;obtain⟨p,ys,rfl,h⟩:=h;obtain⟨u,rfl,f⟩:=vals1 r;cases f;rcases h with⟨a,q⟩|⟨a,q⟩
 .obtain⟨its,r',pl,hz⟩:=I.list a
  have c:=r'.length;refine call_tuple_list pl.isList (λh' kp=>?_) (by simp only[bT]<;>omega);have d:Inv X ae σ H {s with heap:=h'}:=I.kept (t':=s.toks) kp;have g:Inv X ae σ (ax H h'.objs.size (.tup ys)) {s with heap:=h'.push {cls:=.type "tuple",data:=.seq its.toArray}}:=
   d.laid (t':=s.toks) (λb o e=>bu _ e) (aJ _) (show cg X.prog X.w _ _ _ (.tup ys) from⟨hz,its,r',lS.new _ _⟩)
  exact⟨.ref h'.objs.size,_,g,rfl,q _ (d.ar.fresh (aJ _))⟩
 .obtain⟨its,r',pl,hz⟩:=I.tuple a
  exact call_tuple_same pl ⟨.ref p,H,I,rfl,q⟩
def CG(K:Frag)(T:String)(x:V)(H:Hp):Prop:=match x with
 |.str _=>T="str"
 |.int _=>T="int"
 |.ref p=>(T="list"/\∃xs,aU K H p xs)\/(T="tuple"/\∃o,K.lookup p=some o/\o.cls=.type "tuple"/\o.dict=none)\/
  (T="dict"/\((∃kvs,H p=some (.dK kvs))\/∃kvs,H p=some (.dT kvs)))\/(T="set"/\∃S n,H p=some (.set S n))
 |_=>False
theorem Yq{ae:bh}{σ:St}{H:Hp}{s:Shared}{T:String}{x:V}{v:Value}(I:Inv X ae σ H s)(r:RelV x v)(ty:CG X.K T x H):
  s.TypeIs v T/\∀a,v=.ref a->∃f,s.heap.get? a=some f/\f.dict=none:=by
 cases x with
 |str z=>
  obtain⟨t,rfl⟩:=r;cases (show T="str" from ty);exact⟨typeIs_str s z t,λ_ e=>nomatch e⟩
 |int i=>
  obtain⟨t,rfl⟩:=r;cases (show T="int" from ty);exact⟨typeIs_int s i t,λ_ e=>nomatch e⟩
 |ref p=>
  cases r;rcases ty with⟨rfl,xs,g⟩|⟨rfl,o,b,hc,hd⟩|⟨rfl,b⟩|⟨rfl,S,n,b⟩
  .obtain⟨its,_,pl,_⟩:=I.list g
   refine⟨pl.isList.typeIs,λa e=>?_⟩;cases e;obtain⟨o,n,e,c,hd,_⟩:=pl;exact⟨o,e,hd⟩
  .refine⟨⟨o,I.e_ p o b,hc⟩,λa e=>?_⟩
   cases e;exact⟨o,I.e_ _ o b,hd⟩
  .have z:∃o,s.heap.get? p=some o/\o.ExactDict:=by
    rcases b with⟨kvs,b⟩|⟨kvs,b⟩
    .obtain⟨_,_,_,_,o,_,_,e,ex,_⟩:=I.ar p _ b
     exact⟨o,e,ex⟩
    .obtain⟨_,_,_,_,o,_,_,e,ex,_⟩:=I.ar p _ b
     exact⟨o,e,ex⟩
   obtain⟨o,e,ex⟩:=z;refine⟨⟨o,e,ex.1⟩,λa d=>?_⟩;cases d;exact⟨o,e,ex.2.1⟩
  .obtain⟨o,_,_,_,e,ex,_⟩:=I.ar p _ b
   refine⟨⟨o,e,ex.1⟩,λa d=>?_⟩;cases d;exact⟨o,e,ex.2.1⟩
 |_=>exact False.elim ty
def Xs(K:Frag)(T:String)(r:V->Bn->Hp->VK->Prop)(to:TE)(t:TA):TE:=λσ H Q=>to σ H λx H1=>CG K T x H1/\t σ H1 λxs H2=>r x xs H2 Q
variable{o e:Expr}{es:Dx}{to:TE}{t:TA}{name:Str}{apos cpos:Pos}{T id:String}{r:V->Bn->Hp->VK->Prop}
theorem Ie(k:PlainAttrs T)(slot:Slot T name id)(f:typeOf (.builtin id)=pure (.type "method_descriptor"))(l:zx X id r)(m:PE X o to)(n:PA X (e::es) t)
  (b:attributeBase o name X.env (eval o X.env)=eval o X.env:=by rfl)
  (d:((backTo cpos (starEach (e::es) X.env)).all (λx=> !x.1)&&(backToKw cpos (keywordEach [] X.env)).all (λx=>x.1.isSome)
   &&decide ((e::es).length+([]:FC).length+(if ([]:FC).isEmpty then 0 else 1)<30))=true:=by rfl)
  (c:(apos.endLine==cpos.line)=true:=by rfl)(p:starEach (e::es) X.env=(false,eval e X.env)::starEach es X.env:=by rfl)(a:(backTo cpos (starEach es X.env)).any (·.1)=false:=by rfl):
  PE X (.Call (.Attribute o name apos) (e::es) [] cpos) (Xs X.K T r to t):=by
 intro ae s σ H Q I h
 refine wpAny_Call_method_late b d c rfl (aN (m ae s σ H _ I h) λv q ⟨x,H1,g,i,ty,u⟩=> ?_)
 obtain⟨h1,h2⟩:=Yq g i ty
 refine⟨T,id,k,slot,f,h1,h2,?_⟩
 have j:=n cpos ae q σ H1 _ g u
 rw[p] at j ⊢
 refine Calls.callWith_builtin (by show(false||(backTo cpos (starEach es X.env)).any (·.1))=false;rw[a]<;>rfl) (Calls.evalArgs_plain ?_)
 exact aN j λw y ⟨vs,H2,z,A,B⟩=>l ae y σ H2 x vs v w Q z i A B
end
def mU(X:Cx)(id:String)(r:V->Bn->Hp->VK->Prop):Prop:=
 ∀(ae:bh) (s:Shared) (σ:St) (H:Hp) (x:V) (xs:Bn) (v:Value) (us:BM) (Q:VK),Inv X ae σ H s->RelV x v->Vals xs us->r x xs H Q->
  wpAny (model X.prog X.w) X.A (call (.builtin id) (v::us)) (EP X ae σ Q) X.xe s
theorem Vals.one:∀{x:V} {a:BM},Vals [x] a->∃u,a=[u]/\RelV x u
 |_,_,.cons r .nil=>⟨_,rfl,r⟩
theorem Vals.eraseIdx:∀{xs:Bn} {a:BM} (i:Nat),Vals xs a->Vals (xs.eraseIdx i) (a.eraseIdx i)
 |_,_,_,.nil=>.nil
 |_,_,0,.cons _ t=>t
 |_,_,i+1,.cons r t=>.cons r (Vals.eraseIdx i t)
theorem Vals.rep{xs:Bn}{a:BM}(h:Vals xs a):∀k:Nat,Vals (replicate k xs).flatten (replicate k a).flatten
 |0=>.nil
 |k+1=>by
  rw[lE,lE,sr,sr];exact Vals.append h (Vals.rep h k)
theorem Ho{α:Type}:∀(l:List α) (i:Nat),(l.eraseIdx i).length<=l.length
 |[],_=>aJ _
 |_::_,0=>nH _
 |_::r,i+1=>Nat.succ_le_succ (Ho r i)
theorem foldl_rep(its:BM):∀(k:Nat) (acc:BM),
  foldl (λa b=>a++b) acc.toArray (replicate k its.toArray)=(acc++(replicate k its).flatten).toArray
 |0,acc=>by simp
 |k+1,acc=>by
  have e:acc.toArray++its.toArray=(acc++its).toArray:=θ
  have c:(acc++its)++(replicate k its).flatten=acc++(replicate (k+1) its).flatten:=by
   rw[lE,sr,nR]
  rw[<-c,<-foldl_rep its k (acc++its),<-e,lE,gF]
section
variable{ae:bh}{σ:St}{H:Hp}{s:Shared}{l b:Addr}{xs ys zs:Bn}
theorem Inv.wQ{its its':BM}{n:Nat}{f:Array Value->Array Value}{t':Nat}(I:Inv X ae σ H s)(a:H l=some (.lst xs))
  (e:s.heap.get? l=some {cls:=.type "list",data:=.seq its.toArray n})(b:f its.toArray=its'.toArray)(c:Vals ys its')(hz:ys.length<=sizeLine):
  Inv X ae σ (ax H l (.lst ys)) {s with heap:=s.heap.update l (Obj.mapSeq f),toks:=t'}:=by
 have q:=PySem.IsL.update e f;rw[b] at q;refine I.write (x:=l) (e:=l) (by rw[a];exact trivial) (.inl rfl) (λh u d g=>(qe s.heap (Obj.mapSeq f) (Ne.symm d)).trans g) ⟨_,q⟩ ?_;exact⟨hz,its',_,c,q⟩
theorem Inv.Hu{its:BM}{t':Nat}(I:Inv X ae σ H s)(a:Vals ys its)(hz:ys.length<=sizeLine):
  Inv X ae σ (ax H s.heap.objs.size (.lst ys)) {s with heap:=s.heap.push {cls:=.type "list",data:=.seq its.toArray},toks:=t'}:=
 I.laid (λ_ _ q=>bu _ q) (aJ _) ⟨hz,its,0,a,cy _ rfl⟩
theorem Inv.fresh(I:Inv X ae σ H s):H s.heap.objs.size=none:=I.ar.fresh (aJ _)
theorem Inv.kM(I:Inv X ae σ H s)(a:H l=some (.lst xs)):xs.length<=sizeLine/\∃(its:BM) (n:Nat),Vals xs its/\xs.length=its.length/\s.heap.get? l=some {cls:=.type "list",data:=.seq its.toArray n}:=by
 obtain⟨z,its,n,r,e⟩:=I.ar l _ a;exact⟨z,its,n,r,r.length,e⟩
theorem HN{n:Nat}(h:n<=sizeLine):Builtin.List.listTooLong n=false:=by
 unfold Builtin.List.listTooLong;exact fh ω
end
noncomputable def IB:V->Bn->Hp->VK->Prop:=λx vs H Q=>∃l xs y,x=.ref l/\vs=[y]/\H l=some (.lst xs)/\xs.length<sizeLine/\Q .aG (ax H l (.lst (xs++[y])))
theorem nv:mU X "list.append" IB:=by
 intro ae s σ H x vs v f Q I b c h;obtain⟨l,xs,y,rfl,rfl,a,hz,q⟩:=h;cases b;obtain⟨u,rfl,d⟩:=c.one;obtain⟨z,its,n,r,hl,e⟩:=I.kM a;refine jq F.slot_list_append ⟨_,e,rfl⟩ F.entry_list_append (F.args_list_append_2 _ _) (PySem.list_append l its.toArray n u (by rw[bT];omega)) ⟨e,?_⟩;refine⟨.aG,_,I.wQ (its':=its++[u]) a e θ (r.append (.cons d .nil)) ?_,rfl,q⟩;rw[dZ,List.length_singleton];omega
noncomputable def IG:V->Bn->Hp->VK->Prop:=λx vs H Q=>∃l b xs zs,x=.ref l/\vs=[.ref b]/\H l=some (.lst xs)/\H b=some (.lst zs)/\xs.length+zs.length<=sizeLine/\Q .aG (ax H l (.lst (xs++zs)))
theorem t_:mU X "list.extend" IG:=by
 intro ae s σ H x vs v p Q I f g h;obtain⟨l,b,xs,zs,rfl,rfl,d,i,hz,q⟩:=h;cases f;obtain⟨u,rfl,j⟩:=g.one;cases j;obtain⟨z,its,n,r,hl,e⟩:=I.kM d;obtain⟨t,a,n2,k,m,o⟩:=I.kM i;have hsz:its.toArray.size+a.toArray.size<=sizeLine:=by rw[bT,bT];omega
 have c:¬(!its.toArray.isEmpty&&Builtin.List.listTooLong (its.toArray.size+a.toArray.size))=true:=by
  rw[HN hsz,Bool.and_false];exact cF
 refine jq F.slot_list_extend ⟨_,e,rfl⟩ F.entry_list_extend (F.args_list_extend_2 _ _)
  (AutoSeq1.list_extend_list_list_0 l its.toArray n b a.toArray n2 c (by rw[bT];omega) ω) ⟨e,o,?_⟩
 refine⟨.aG,_,I.wQ (its':=its++a) d e θ (r.append k) ?_,rfl,q⟩;rw[dZ];omega
noncomputable def IV:V->Bn->Hp->VK->Prop:=λx vs H Q=>∃l xs i k y,x=.ref l/\vs=[.int i]/\H l=some (.lst xs)/\-(2 ^ 63)<=i/\i<2 ^ 63/\seqIndex? i xs.length=some k/\xs[k]?=some y/\Q y (ax H l (.lst (xs.eraseIdx k)))
theorem SY:mU X "list.pop" IV:=by
 intro ae s σ H x vs v o Q I c d h;obtain⟨l,xs,i,k,y,rfl,rfl,b,h1,h2,f,g,q⟩:=h;cases c;obtain⟨u,rfl,j⟩:=d.one;obtain⟨t,rfl⟩:=j;obtain⟨z,its,n,r,hl,e⟩:=I.kM b;obtain⟨w,m,a⟩:=r.get g;refine jq F.slot_list_pop ⟨_,e,rfl⟩ F.entry_list_pop (F.args_list_pop_2 _ _)
  (MeetsSeq.list_pop_at l its.toArray n i t k w (fitsIndex_both h1 h2) (by rw[bT,<-hl];exact f) (by rw[<-nG];exact m) (by rw[bT];omega)) ⟨e,?_⟩
 refine⟨y,_,I.wQ (its':=its.eraseIdx k) b e ?_ (r.eraseIdx k) ?_,a,q⟩
 .show its.toArray.eraseIdxIfInBounds k=(its.eraseIdx k).toArray
  rw[List.eraseIdxIfInBounds_toArray]
 .have:=Ho xs k
  omega
noncomputable def IC:R2:=λx y H Q=>∃l b xs zs,x=.ref l/\y=.ref b/\H l=some (.lst xs)/\H b=some (.lst zs)/\xs.length+zs.length<=sizeLine/\∀p,H p=none->Q (.ref p) (ax H p (.lst (xs++zs)))
theorem TF:bI X (binaryOp .Add) IC:=by
 intro ae s σ H x y v u Q I c d h;obtain⟨l,b,xs,zs,rfl,rfl,f,g,hz,q⟩:=h;cases c;cases d;obtain⟨z,its,n,r,hl,e⟩:=I.kM f;obtain⟨o,a,n2,i,j,k⟩:=I.kM g;refine PySem.P.add_list e k ?_ (by rw[bT,bT];omega);have m:its.toArray++a.toArray=(its++a).toArray:=θ
 rw[m];exact⟨.ref _,_,I.Hu (t':=s.toks) (r.append i) (by rw[dZ];omega),rfl,q _ I.fresh⟩
theorem len_rep{α:Type}(xs:List α)(k:Nat):(replicate k xs).flatten.length=k*xs.length:=by
 induction k with
 |zero=>simp
 |succ k a=>rw[lE,sr,dZ,a,Nat.succ_mul,Nat.add_comm]
section
variable{κ:Type}[DecidableEq κ]
def fQ(kvs:List (κ×V))(k:κ):Option V:=(kvs.find? λkv=>decide (kv.1=k)).map (·.2)
noncomputable def putK(kvs:List (κ×V))(k:κ)(v:V):List (κ×V):=
 if (kvs.any λkv=>decide (kv.1=k))=true then kvs.map (λkv=>if kv.1=k then (kv.1,v) else kv) else kvs++[(k,v)]
theorem CL{p:κ×V}{r:List (κ×V)}{k:κ}(e:p.1=k):fQ (p::r) k=some p.2:=by simp[fQ,lM,e]
theorem CK{p:κ×V}{r:List (κ×V)}{k:κ}(e:¬p.1=k):fQ (p::r) k=fQ r k:=by simp[fQ,lM,e]
theorem Li(k:κ):∀kvs:List (κ×V),(kvs.any λa=>decide (a.1=k))=(fQ kvs k).isSome
 |[]=>rfl
 |p::r=>by
  rw[p8];by_cases e:p.1=k
  .simp only[CL e,dc e,Bool.true_or,Option.isSome_some]
  .rw[CK e,fh e,Bool.false_or];exact Li k r
theorem Bq(kvs:List (κ×V))(k:κ)(v:V):(putK kvs k v).length<=kvs.length+1:=by
 unfold putK;split
 .rw[aQ];omega
 .rw[dZ,iw,length_nil];omega
theorem jS.tQ{o:Option V}{u:Option Value}(r:jS o u):o.isSome=u.isSome:=by
 cases o with
 |none=>cases u with
  |none=>rfl
  |some _=>exact(show False from r).elim
 |some _=>cases u with
  |none=>exact(show False from r).elim
  |some _=>rfl
theorem KV.val{kvs:List (κ×V)}{vs:List (κ×Value)}(r:KV kvs vs)(k:κ):jS (fQ kvs k) (valueAt vs k):=by
 unfold KV at r;induction r with
 |nil=>exact True.intro
 | @cons p q ps qs h t c=>
  obtain⟨h1,h2⟩:=h;by_cases e:p.1=k
  .have a:q.1=k:=h1.symm.trans e
   have b:valueAt (q::qs) k=some q.2:=by simp[valueAt,lM,a]
   rw[CL e,b];exact h2
  .have a:¬q.1=k:=λz=>e (h1.trans z)
   have b:valueAt (q::qs) k=valueAt qs k:=by simp[valueAt,lM,a]
   rw[CK e,b];exact c
theorem KV.any{kvs:List (κ×V)}{vs:List (κ×Value)}(r:KV kvs vs)(k:κ):(kvs.any λa=>decide (a.1=k))=vs.any λa=>decide (a.1=k):=by
 unfold KV at r;induction r with
 |nil=>rfl
 |cons h t b=>rw[p8,p8,b,h.1]
theorem KV.repl{kvs:List (κ×V)}{vs:List (κ×Value)}(r:KV kvs vs)(k:κ){y:V}{u:Value}(b:RelV y u):
  KV (kvs.map λa=>if a.1=k then (a.1,y) else a) (vs.map λa=>if a.1=k then (a.1,u) else a):=by
 unfold KV at r ⊢;induction r with
 |nil=>exact .nil
 | @cons p q ps qs h t c=>
  rw[cJ,cJ];refine .cons ?_ c;obtain⟨h1,h2⟩:=h;by_cases e:p.1=k
  .rw[aC e,aC (h1.symm.trans e)];exact⟨h1,b⟩
  .rw[ay e,ay (λz=>e (h1.trans z))];exact⟨h1,h2⟩
theorem KV.put{kvs:List (κ×V)}{vs:List (κ×Value)}(r:KV kvs vs)(k:κ){y:V}{u:Value}(a:RelV y u):KV (putK kvs k y) (stored vs k u):=by
 unfold putK stored;rw[r.any k];by_cases e:(vs.any λb=>decide (b.1=k))=true
 .rw[aC e,aC e];exact r.repl k a
 .rw[ay e,ay e];exact Paired.snoc r ⟨rfl,a⟩
theorem KV.keys{kvs:List (κ×V)}{vs:List (κ×Value)}(r:KV kvs vs):kvs.map (·.1)=vs.map (·.1):=by
 unfold KV at r;induction r with
 |nil=>rfl
 |cons h t a=>rw[cJ,cJ,a,h.1]
theorem KV.length{kvs:List (κ×V)}{vs:List (κ×Value)}(r:KV kvs vs):kvs.length=vs.length:=Paired.length r
end
theorem o4{P:Program}{w:World}{k:Key}{u:Value}(r:RelV (kV k) u):(dD P w).is k u=true:=by
 cases k with
 |inl i=>obtain⟨t,e⟩:=(show ∃t,u=Value.int i t from r);subst e;exact SM P w i t
 |inr x=>obtain⟨t,e⟩:=(show ∃t,u=Value.str x t from r);subst e;exact SN P w x t
theorem GY{P:Program}{w:World}:∀{ks:Ee} {a:BM},Vals (ks.map kV) a->ItemsAre (dD P w) ks a
 |[],_,r=>by rw[map_nil] at r;cases r;exact .nil
 |k::ks,_,r=>by
  rw[cJ] at r;cases r with
  |cons h t=>exact .cons (o4 h) (GY t)
abbrev KT(H:Hp):List (Ee×V)->List (Ee×Addr×Value)->Prop:=Paired λp q=>p.1=q.1/\H q.2.1=some (.tup (p.1.map kV))/\RelV p.2 q.2.2
theorem KT.val{H:Hp}{kvs:List (Ee×V)}{xs:List (Ee×Addr×Value)}(r:KT H kvs xs)(k:Ee):jS (fQ kvs k) ((atKey xs k).map (·.2)):=by
 induction r with
 |nil=>exact True.intro
 | @cons p q ps qs h t c=>
  obtain⟨h1,_,h2⟩:=h;by_cases e:p.1=k
  .have a:q.1=k:=h1.symm.trans e
   have b:atKey (q::qs) k=some q.2:=by simp[atKey,lM,a]
   rw[CL e,b];exact h2
  .have a:¬q.1=k:=λz=>e (h1.trans z)
   have b:atKey (q::qs) k=atKey qs k:=by simp[atKey,lM,a]
   rw[CK e,b];exact c
theorem KT.repl{H:Hp}{kvs:List (Ee×V)}{xs:List (Ee×Addr×Value)}(r:KT H kvs xs)(k:Ee){y:V}{u:Value}(b:RelV y u):
  KT H (kvs.map λa=>if a.1=k then (a.1,y) else a) (xs.map (putAt k u)):=by
 induction r with
 |nil=>exact .nil
 | @cons p q ps qs h t c=>
  rw[cJ,cJ];refine .cons ?_ c;obtain⟨h1,h2,d⟩:=h;unfold putAt;by_cases e:p.1=k
  .rw[aC e,aC (h1.symm.trans e)];exact⟨h1,h2,b⟩
  .rw[ay e,ay (λz=>e (h1.trans z))];exact⟨h1,h2,d⟩
theorem KT.put{H:Hp}{kvs:List (Ee×V)}{xs:List (Ee×Addr×Value)}(r:KT H kvs xs)(k:Ee){b:Addr}{y:V}{u:Value}(c:H b=some (.tup (k.map kV)))(a:RelV y u):
  KT H (putK kvs k y) (storedH xs k b u):=by
 have e:(kvs.any λd=>decide (d.1=k))=(atKey xs k).isSome:=by
  rw[Li,(r.val k).tQ,isSome_map]
 unfold putK storedH;rw[e];by_cases q:(atKey xs k).isSome=true
 .rw[aC q,aC q];exact r.repl k a
 .rw[ay q,ay q];exact Paired.snoc r ⟨rfl,c,a⟩
theorem KT.keeps{H H':Hp}{kvs:List (Ee×V)}{xs:List (Ee×Addr×Value)}(r:KT H kvs xs)(a:∀b ys,H b=some (.tup ys)->H' b=some (.tup ys)):KT H' kvs xs:=
 Paired.kO r λ_ _ z=>⟨z.1,a _ _ z.2.1,z.2.2⟩
section
variable{P:Program}{w:World}{H:Hp}{h:Heap}{a:Addr}
theorem I0{u:HO}(ok:cZ P w H h)(e:Rd H a u):cg P w H h a u:=e.ok ok
theorem oR{kvs:List (Key×V)}(ok:cZ P w H h)(e:Rd H a (.dK kvs)):kvs.length<=sizeLine/\(a==sysModules)=false/\∃vs,KV kvs vs/\h.DictOf (dD P w) a vs:=
 show cg P w H h a (.dK kvs) from I0 ok e
theorem vW{kvs:List (Key×V)}(ok:cZ P w H h)(e:H a=some (.dK kvs)):kvs.length<=sizeLine/\(a==sysModules)=false/\∃vs,KV kvs vs/\h.DictOf (dD P w) a vs:=oR ok (.inl e)
theorem tS{ks:Ee}(ok:cZ P w H h)(e:H a=some (.tup (ks.map kV))):(tupleKind (dD P w)).is h ks a:=by
 obtain⟨_,its,r,p⟩:=(show cg P w H h a (.tup (ks.map kV)) from ok a _ e);obtain⟨o,h1,h2,n,b⟩:=p.is;exact⟨o,its.toArray,n,h1,h2,b,by simpa using GY r⟩
theorem s_{kvs:List (Ee×V)}(ok:cZ P w H h)(e:Rd H a (.dT kvs)):kvs.length<=sizeLine/\(a==sysModules)=false/\
  ∃xs,KT H kvs xs/\h.DictOfH (tupleKind (dD P w)) a xs:=by
 obtain⟨z,y,xs,r,o,es,ep,h1,h2,c,d,f⟩:=(show cg P w H h a (.dT kvs) from I0 ok e);refine⟨z,y,xs,r,o,es,ep,h1,h2,c,d,λx hx=>?_,f⟩;have all:∀{l:List (Ee×V)} {m:List (Ee×Addr×Value)},KT H l m->∀x∈m,(tupleKind (dD P w)).is h x.1 x.2.1:=by
  intro l m q;induction q with
  |nil=>intro x hx;exact nomatch hx
  | @cons p q ps qs b t g=>
   intro x hx;rcases bx.mp hx with e|hx
   .subst e
    exact tS ok (by rw[<-b.1];exact b.2.1)
   .exact g x hx
 exact all r x hx
theorem Oo{kvs:List (Ee×V)}(ok:cZ P w H h)(e:H a=some (.dT kvs)):kvs.length<=sizeLine/\(a==sysModules)=false/\
 ∃xs,KT H kvs xs/\h.DictOfH (tupleKind (dD P w)) a xs:=s_ ok (.inl e)
end
def qi(H:Hp)(a:Addr)(y:V)(r:Option V):Prop:=
 (∃kvs k,Rd H a (.dK kvs)/\y=kV k/\r=fQ kvs k)\/∃kvs k b,Rd H a (.dT kvs)/\y=.ref b/\H b=some (.tup (k.map kV))/\r=fQ kvs k
def sA(H:Hp)(a:Addr)(y v:V)(H':Hp):Prop:=
 (∃kvs k,H a=some (.dK kvs)/\y=kV k/\kvs.length<sizeLine/\H'=ax H a (.dK (putK kvs k v)))\/
 ∃kvs k b,H a=some (.dT kvs)/\y= .ref b/\H b=some (.tup (k.map kV))/\kvs.length<sizeLine/\H'=ax H a (.dT (putK kvs k v))
theorem sA.k{H:Hp}{a:Addr}{kvs:List (Key×V)}{k:Key}{v:V}(e:H a=some (.dK kvs))(hl:kvs.length<sizeLine):sA H a (kV k) v (ax H a (.dK (putK kvs k v))):=.inl ⟨kvs,k,e,rfl,hl,rfl⟩
section
variable{ae:bh}{σ:St}{H:Hp}{s:Shared}{a:Addr}{y v:V}{u r:Value}{o:Option V}{A:Around}{E:aR}
theorem Inv.big(I:Inv X ae σ H s):sysModules<s.heap.objs.size:=by
 have h:mainGlobals<s.heap.objs.size:=(I.mod.glob.keeps I.bk).lt;exact lt_trans δ h
theorem Nu{Q:aR}(n:A.units+1<cLine)(I:Inv X ae σ H s)(g:qi H a y (some v))(m:RelV y u)(h:∀d s',Inv X ae σ H s'->RelV v d->Q d s'):
  wpAny (model X.prog X.w) A (getItem (.ref a) u) Q E s:=by
 rcases g with⟨kvs,k,e,f,l⟩|⟨kvs,k,b,e,f,q,l⟩
 .subst f
  obtain⟨z,hd,vs,rel,dd⟩:=oR I.ar e;obtain⟨d,i,c⟩:=jS.some_of (v:=v) (o:=valueAt vs k) (by rw[l];exact rel.val k);exact wpAny_getItem_of (o4 m) dd.mapOf i (h d _ (I.tok _) c)
 .subst f
  cases (show u=Value.ref b from m);obtain⟨z,hd,xs,rel,dd⟩:=s_ I.ar e;obtain⟨d,i,c⟩:=jS.some_of (v:=v) (o:=(atKey xs k).map (·.2)) (by rw[l];exact rel.val k);obtain⟨p,r,j⟩:=Option.map_eq_some_iff.mp i;refine wpAny_getItem_heap (yT n) (tS I.ar q) dd r ?_;rw[j];exact h d _ (I.tok _) c
theorem Nv{Q:aR}(f:A.units+1<cLine)(I:Inv X ae σ H s)(g:qi H a y o)(d:RelV y u)(h:∀s',Inv X ae σ H s'->Q (.bool o.isSome) s'):
  wpAny (model X.prog X.w) A (compareOp .In u (.ref a)) Q E s:=by
 rcases g with⟨kvs,k,e,c,l⟩|⟨kvs,k,b,e,c,i,l⟩
 .subst c
  obtain⟨z,hd,vs,rel,dd⟩:=oR I.ar e;refine wpAny_in_of (o4 d) hd dd.mapOf ?_;rw[<-(rel.val k).tQ,<-l];exact h _ (I.tok _)
 .subst c
  cases (show u=Value.ref b from d);obtain⟨z,hd,xs,rel,dd⟩:=s_ I.ar e;refine wpAny_in_heap (yT f) (tS I.ar i) hd dd ?_;have q:=(rel.val k).tQ;rw[isSome_map] at q;rw[<-q,<-l];exact h _ (I.tok _)
theorem NH{Q:aR}(f:A.units+1<cLine)(I:Inv X ae σ H s)(g:qi H a y o)(d:RelV y u)(h:∀s',Inv X ae σ H s'->Q (.bool (!o.isSome)) s'):
  wpAny (model X.prog X.w) A (compareOp .NotIn u (.ref a)) Q E s:=by
 rcases g with⟨kvs,k,e,c,l⟩|⟨kvs,k,b,e,c,i,l⟩
 .subst c
  obtain⟨z,hd,vs,rel,dd⟩:=oR I.ar e;refine wpAny_notIn_of (o4 d) hd dd.mapOf ?_;rw[<-(rel.val k).tQ,<-l];exact h _ (I.tok _)
 .subst c
  cases (show u=Value.ref b from d);obtain⟨z,hd,xs,rel,dd⟩:=s_ I.ar e;refine wpAny_notIn_heap (yT f) (tS I.ar i) hd dd ?_;have q:=(rel.val k).tQ;rw[isSome_map] at q;rw[<-q,<-l];exact h _ (I.tok _)
theorem vQ{h':Heap}{t':Nat}{c:HO}(I:Inv X ae σ H s)(d:sE (H a))(f:SameBut a s.heap h')(g:∃q,h'.get? a=some q)(new:cg X.prog X.w (ax H a c) h' a c):
  Inv X ae σ (ax H a c) {s with heap:=h',toks:=t'}:=
 I.write (x:=a) (e:=a) d (.inl rfl) (λb q h z=>(f.2 b h).trans z) g new
theorem An{P:Program}{w:World}{H':Hp}{h':Heap}{kvs:List (Key×V)}{vs:List (Key×Value)}(z:kvs.length<=sizeLine)(hd:(a==sysModules)=false)(rel:KV kvs vs)(dd:h'.DictOf (dD P w) a vs):
 cg P w H' h' a (.dK kvs):=⟨z,hd,vs,rel,dd⟩
theorem NO{H':Hp}{Q:Unit->Shared->Prop}(x:A.units+1<cLine)(I:Inv X ae σ H s)(g:sA H a y v H')(n:RelV y u)(o:RelV v r)(h:∀s',Inv X ae σ H' s'->Q () s'):
  wpAny (model X.prog X.w) A (setItem (.ref a) u r) Q E s:=by
 rcases g with⟨kvs,k,e,i,l,j⟩|⟨kvs,k,b,e,i,p,l,j⟩
 .subst i j
  obtain⟨z,hd,vs,rel,dd⟩:=vW I.ar e;have hz:vs.length<=sizeLine:=by rw[<-rel.length];exact z
  have hl:(putK kvs k v).length<=sizeLine:=by have:=Bq kvs k v;omega
  refine wpAny_setItem_pairs (hsz:=hz) (o4 n) dd λh' d m=>h _ ?_;have B:∃q,h'.get? a=some q:=let ⟨q,_,_,f,_⟩:=d;⟨q,f⟩;exact vQ I (by rw[e];exact True.intro) m B (An hl hd (rel.put k o) d)
 .subst i j
  cases (show u=Value.ref b from n);obtain⟨z,hd,xs,rel,dd⟩:=Oo I.ar e;have hz:xs.length<=sizeLine:=by rw[<-Paired.length rel];exact z
  have hl:(putK kvs k v).length<=sizeLine:=by have:=Bq kvs k v;omega
  refine wpAny_setItem_heap (hsz:=hz) (yT x) (tS I.ar p) dd λh' d m=>h _ ?_;obtain⟨q,es,ep,f,h2,C,D,_,F⟩:=d;refine vQ I (by rw[e];exact True.intro) m ⟨q,f⟩ ⟨hl,hd,_,(rel.put k p o).keeps λc ys t=>?_,q,es,ep,f,h2,C,D,F⟩;rw[aX (S6 t e (λz=>nomatch z))];exact t
end
section
variable{ae:bh}{σ:St}{H:Hp}{s:Shared}{a:Addr}{kvs:List (Key×V)}{k:Key}{u:Value}{A:Around}{E:aR}
theorem gc{Q:aR}(I:Inv X ae σ H s)(e:Rd H a (.dK kvs))(h:∀t s',Inv X ae σ H s'->Q (.int kvs.length t) s'):wpAny (model X.prog X.w) A (call (.builtin "len") [.ref a]) Q E s:=by
 obtain⟨z,hd,vs,rel,dd⟩:=oR I.ar e;refine call_len_dict hd dd (by rw[<-rel.length];rw[lG] at z;omega) ?_;rw[<-rel.length];exact h _ _ (I.tok _)
end
theorem Oa{X:Cx}{ae:bh}{σ:St}{H:Hp}{s:Shared}{a:Addr}{y:V}{o:Option V}(I:Inv X ae σ H s)(g:qi H a y o):s.TypeIs (.ref a) "dict":=by
 rcases g with⟨kvs,k,e,_,_⟩|⟨kvs,k,b,e,_,_,_⟩
 .obtain⟨_,_,vs,_,dd⟩:=oR I.ar e
  exact dd.typeIs
 .obtain⟨_,_,xs,_,dd⟩:=s_ I.ar e
  exact dd.typeIs
def VQ(td ty tv:TE):TS:=λD σ H=>tv σ H λv H1=>td σ H1 λx H2=>ty σ H2 λy H3=>∃a H4,x=.ref a/\sA H3 a y v H4/\D.nx σ H4
section
variable{o i e value:Expr}{pos pos' tpos:Pos}{td ty tv:TE}
theorem U5(b:X.A.units+1<cLine)(c:PE X o td)(hi:PE X i ty)(d:PE X value tv)(e:swapsWith value (some (.Subscript o i pos')) pos.line X.env=pure false):
  PS X (.Assign [.Subscript o i pos'] value pos) (VQ td ty tv):=by
 intro ae s σ H D I h;refine wpAny_Assign_Subscript (aN (d ae s σ H _ I h) λr f ⟨v,H1,j,k,l⟩=>aN (c ae f σ H1 _ j l) λu m ⟨x,H2,n,p,q⟩=>aN (hi ae m σ H2 _ n q) λE F ⟨y,G,t,w,a,z,ex,g,B⟩=>?_) e;subst ex;obtain rfl:u=Value.ref a:=p;exact NO b t g w k λs4 C=>⟨σ,z,C,B⟩
end
theorem Ft{P:Program}{w:World}{H:Hp}(h:Heap)(a:sysModules<h.objs.size):cg P w H (h.push {cls:=.type "dict",data:=.dict #[]}) h.objs.size (.dK []):=
 ⟨cA _,beq_eq_false_iff_ne.mpr (Ne.symm (bJ a)),[],.nil,DictOf.new h⟩
def Xw:TE:=λ_ H Q=>∀p,H p=none->Q (.ref p) (ax H p (.dK []))
section
variable{pos:Pos}
theorem Ut:PE X (.Dict [] [] pos) Xw:=λae s σ H Q I h=>
 wpAny_Dict_empty ⟨.ref s.heap.objs.size,_,I.laid (a:=s.heap.objs.size) (o:=.dK []) (t':=s.toks) (λ_ _ q=>bu _ q) (aJ _) (Ft s.heap I.big),rfl,h _ (I.ar.fresh (aJ _))⟩
end
noncomputable def Cu:List (TE×TE)->St->Hp->(List (V×V)->Hp->Prop)->Prop
 |[],_,H,Q=>Q [] H
 |(tk,tv)::r,σ,H,Q=>tk σ H λx H1=>tv σ H1 λy H2=>Cu r σ H2 λps H3=>Q ((x,y)::ps) H3
abbrev VV:List (V×V)->List (Value×Value)->Prop:=Paired λp q=>RelV p.1 q.1/\RelV p.2 q.2
def vv(X:Cx)(pos:Pos)(keys:List (Option Expr))(values:Dx)(CD:List (TE×TE)):Prop:=
 ∀(ae:bh) (s:Shared) (σ:St) (H:Hp) (Q:List (V×V)->Hp->Prop),Inv X ae σ H s->Cu CD σ H Q->
  wpAny (model X.prog X.w) X.A (evalPairs (pairTrees keys values X.env pos)) (λvs s'=>∃ps H',Inv X ae σ H' s'/\VV ps vs/\Q ps H') X.xe s
theorem U1{X:Cx}{pos:Pos}:vv X pos [] [] []:=λae s σ H Q I h=>pairTrees_nil_walk ⟨[],H,I,.nil,h⟩
theorem U0{X:Cx}{pos:Pos}{k v:Expr}{ks:List (Option Expr)}{vs:Dx}{tk tv:TE}{a:List (TE×TE)}(b:PE X k tk)(c:PE X v tv)(d:vv X pos ks vs a):
  vv X pos (some k::ks) (v::vs) ((tk,tv)::a):=λae s σ H Q I h=>
 pairTrees_cons_walk (aN (b ae s σ H _ I h) λu e ⟨x,H1,f,g,i⟩=>aN (c ae e σ H1 _ f i) λr j ⟨y,H2,l,m,n⟩=>
  aN (d ae j σ H2 _ l n) λws t ⟨ps,o,p,rel,q⟩=>⟨(x,y)::ps,o,p,.cons ⟨g,m⟩ rel,q⟩)
def kP(kvs more:List (Key×V)):List (Key×V):=more.foldl (λacc kv=>putK acc kv.1 kv.2) kvs
theorem KV.merge:∀{a:List (Key×V)} {rs:List (Key×Value)} {kvs:List (Key×V)} {vs:List (Key×Value)},KV a rs->KV kvs vs->KV (kP kvs a) (merged vs rs):=by
 intro a rs kvs vs r;unfold KV at r;induction r generalizing kvs vs with
 |nil=>intro q;exact q
 | @cons p q ps qs h t b=>
  intro c;have e:KV (putK kvs p.1 p.2) (stored vs q.1 q.2):=by
   have:=c.put p.1 h.2;rw[<-h.1];exact this
  exact b e
theorem Bp:∀(a kvs:List (Key×V)),(kP kvs a).length<=kvs.length+a.length
 |[],kvs=>by show kvs.length<=kvs.length+0;omega
 |p::r,kvs=>by
  have h1:=Bp r (putK kvs p.1 p.2);have h2:=Bq kvs p.1 p.2;show(kP (putK kvs p.1 p.2) r).length<=_;rw[iw];omega
theorem Et{P:Program}{w:World}:∀{kvs:List (Key×V)} {ws:List (Value×Value)},VV (kvs.map λd=>(kV d.1,d.2)) ws->∃rs,Carries (dD P w) ws rs/\KV kvs rs
 |[],_,r=>by rw[map_nil] at r;cases r;exact⟨[],True.intro,.nil⟩
 |p::kvs,_,r=>by
  rw[cJ] at r;cases r with
  | @cons a b as bs h t=>
   obtain⟨rs,c,q⟩:=Et (P:=P) (w:=w) t;obtain⟨f,e⟩:=b;exact⟨(p.1,e)::rs,⟨o4 h.1,rfl,c⟩,.cons ⟨rfl,h.2⟩ q⟩
def Xx(CD:List (TE×TE)):TE:=λσ H Q=>∀p,H p=none->Cu CD σ (ax H p (.dK [])) λps H2=>H2 p=some (.dK [])/\∃kvs:List (Key×V),ps=kvs.map (λkv=>(kV kv.1,kv.2))/\kvs.length<=15/\Q (.ref p) (ax H2 p (.dK (kP [] kvs)))
theorem Us{X:Cx}{pos:Pos}{keys:List (Option Expr)}{values:Dx}{b:List (TE×TE)}(h:vv X pos keys values b)(d:keys.all (·.isSome)=true)(hl:keys.length=values.length)(h0:keys≠[])
  (g:keys.length<=15):PE X (.Dict keys values pos) (Xx b):=by
 intro ae s σ H Q I q;have j:=I.ar.fresh (aJ s.heap.objs.size);have k:=I.laid (a:=s.heap.objs.size) (o:=.dK []) (h':=s.heap.push {cls:=.type "dict",data:=.dict #[]}) (t':=s.toks) (λ_ _ q=>bu _ q) (aJ _) (Ft s.heap I.big);refine wpAny_Dict_walk (knd:=dD X.prog X.w) d hl h0 g (aN (h ae _ σ _ _ k (q _ j)) λws v ⟨ps,H2,i,rel,e,kvs,ep,lk,l⟩=>?_);subst ep;obtain⟨rs,c,m⟩:=Et (P:=X.prog) (w:=X.w) rel;obtain⟨z,hd,n,p,dd⟩:=vW i.ar e;cases p;refine⟨rs,c,dd,λh' f r=>⟨.ref s.heap.objs.size,_,?_,rfl,l⟩⟩;have hz:(kP [] kvs).length<=sizeLine:=by
  have h1:=Bp kvs [];rw[length_nil] at h1;rw[lG];omega
 have t:∃q,h'.get? s.heap.objs.size=some q:=let ⟨q,_,_,u,_⟩:=f;⟨q,u⟩;exact vQ i (by rw[e];exact True.intro) r t (An hz hd (m.merge .nil) f)
end L2
end
namespace C7
open PySem PySem.W PySem.Calls PyProof.Rows
theorem Q_{P:Params}{h:Heap}:∀(ns:DD) (vs:BM),WellAll P h vs (ns.map WData.int)->IntsAre vs ns:=by
 intro ns;induction ns with
 |nil=>
  intro vs w;rw[map_nil] at w;cases w;exact .nil
 |cons n ns c=>
  intro vs w;rw[cJ] at w;cases w with
  |cons a b=>
   cases a;exact .cons _ _ (c _ b)
theorem WU{l:OpenLaw}{n:Nat}(k:l.most=some n){P:Params}{h:Heap}{args:List WData}{vals:BM}
  (b:l.row.toRowW.claim.pre args=true)(i:WellAll P h vals args):
  ∃a vs ns,vals=[Value.ref a]/\args=[WData.list (ns.map WData.int)]/\h.get? a=some {cls:=.type "list",data:=.seq vs.toArray}/\IntsAre vs ns/\ns.length<=n:=by
 have j:WShape.hasAll [] args [.list .int]=true:=(pre_splitW b).1;have hc:l.pre.holds [] {args:=args}=true:=(pre_splitW b).2;obtain⟨d,r,rfl,h1,h2⟩:=hasAllW_cons j;obtain rfl:=hasAllW_nil h2;obtain⟨xs,rfl,m⟩:=hasW_list h1;obtain⟨ns,rfl⟩:=items_int m;have c:ns.length<=n:=by
  unfold OpenLaw.pre at hc;have f:(WTm.not (.lt (.lit (.int (n:Int))) (.len (.arg 0)))).holds [] {args:=[.list (ns.map .int)]}=true:=by
   have f:=(holds_andW hc).1;rw[k] at f;exact f
  have g:=condW_of f (w_not (w_lt w_lit (w_len_list (w_arg rfl))));rw[aQ] at g;refine Nat.le_of_not_lt λq=>?_;have o:(n:Int)<((ns.length:Nat):Int):=ω
  first
   |(rw[dc o] at g;exact absurd g δ)
   |(simp at g;omega)
 cases i with
 |cons p s=>
  cases s;cases p with
  |list t e=>exact⟨_,_,ns,rfl,rfl,t,Q_ ns _ e,c⟩
theorem UY(l:OpenLaw)(args:List WData):l.row.toRowW.claim.post args (.bool true) args=true:=
 postW_of (r:=l.row.toRowW) (X:=(true==true))
  (show WShape.has [] (.bool true) .bool=true by first|rfl|decide|simp[WShape.has,WShape.arms,WShape.armsAll])
  (show(WTm.eq .res (.lit (.bool true))).value [] {args:=args,res:=some (.bool true),after:=args}=some (.bool (true==true)) from w_eq_bool (w_res rfl) w_lit) rfl
theorem Mr{l:OpenLaw}{n:Nat}{q:Program}{loose:Ap}{p:(aA)->Heap->Prop}{s:World->Heap->Prop}{d:DefRec}
  (v:l.most=some n)(i:d.params.defaults=[])
  (call:∀(w:World) (s₀ b:Shared) (mg mb:aA) (c:Addr) (o:Obj) (pm cd doc:Value) (a:Addr) (vs:BM) (ns:DD),
   Ground q loose [] p w s₀ mg mb b.heap->s w b.heap->
   b.heap.get? c=some o->o.data= .func (docDef d.name d.params d.body d.scope pm cd doc)->b.heap.CodeRec cd d.name->mg d.name=some (.ref c)->
   b.heap.get? a=some {cls:= .type "list",data:= .seq vs.toArray}->IntsAre vs ns->ns.length<=n->b.gens= #[]->
   codeAny (model l.prog w) callerA (.call (.ref c) ⟨[.ref a],[]⟩) (λr s'=>r= .ok (.ret (.bool true))/\OldK b.heap s'.heap/\s'.os=b.os/\AllBare s'.gens) b):
  WalkO q loose p s l.row.toRowW d [] (λf vs=>PySem.call f vs):=by
 intro w s₀ b mg mb G Y c o pm cd doc x kV y hd j t k z args vals as e u A m B
 obtain rfl:x= .none:=Dflts.none t i
 obtain rfl:kV= .none:=Dflts.noKw t
 obtain⟨a,vs,ns,rfl,rfl,g,hints,h⟩:=WU v e m
 refine enter_call (p_ (call w s₀ b mg mb c o pm cd doc a vs ns G Y y (fd_plain hd) j k g hints h z) λr s' C=> ?_)
 obtain⟨rfl,h2,D,E⟩:=C
 exact⟨.inl ⟨.bool true,.bool true,[],rfl,λ_=>rfl,.bool true,UY l _,λ_=>⟨Pairwise.nil,λ_ F=>(nomatch F)⟩⟩,h2,D,E⟩
end C7
section
open PySem PySem.Spec PyProof.Rows
namespace L2
theorem Lk:∀{vs:BM} {ns:DD},IntsAre vs ns->Vals (ns.map V.int) vs
 |_,_,.nil=>.nil
 |_,_,.cons n t h=>.cons ⟨t,rfl⟩ (Lk h)
def vt(H:Hp):Prop:=∀b,H b=none\/∃o xs,H b=some (.bZ o (.lst xs))
theorem RW{P:Program}{w:World}{K:Frag}{mg mb:aA}{CX:i_}{k:Nat}{D a:Addr}{fd:FuncData}{x:Str}{sp:Sp}{c:Shared}{vs:BM}{ns:DD}
  (N:K.In c.heap)(l:c.heap.Ns mainGlobals mg)(g:c.heap.Ns builtinsNs mb)(E:∀x:Str,x≠"__name__"->mb x=bootBuiltins x)(p:c.heap.NoLimit)(T:c.gens= #[])
  (C:c.heap.get? a=some {cls:= .type "list",data:= .seq vs.toArray})(hi:IntsAre vs ns)(hl:ns.length<=sizeLine)(U:dW k callerA)
  (F:∀base:Heap,K.In base->base.Ns mainGlobals mg->f9 P w K mg base CX k D fd [x] sp)(j:∀(s:Shared) (u:Value),BindsTo s fd ⟨[u],[]⟩ [(x,u)])
  (G:∀H:Hp,vt H->aU K H a (ns.map V.int)->sp [.ref a] H (λv _=>v= .bl true) λ_ _ _=>False)
  (I:∀H e s',CX [] H c (λ_ _ _=>False) e s'->False):
  codeAny (model P w) callerA (.call (.ref D) ⟨[.ref a],[]⟩) (λr s'=>r= .ok (.ret (.bool true))/\OldK c.heap s'.heap/\s'.os=c.os/\AllBare s'.gens) c:=by
 have O:=Lk hi
 have t:=hi.length
 have core:∀H:Hp,vt H->aU K H a (ns.map V.int)->cZ P w H c.heap->(∀b,H b≠none->b=a)->(H a≠none->K.lookup a=none)->
   codeAny (model P w) callerA (.call (.ref D) ⟨[.ref a],[]⟩) (λr s'=>r= .ok (.ret (.bool true))/\OldK c.heap s'.heap/\s'.os=c.os/\AllBare s'.gens) c:=by
  intro H Q W ar R X
  have f:∀{b:Addr} {o:Obj},c.heap.get? b=some o->H b=none->(lZ c.heap H).get? b=some o:=λe n=>QH e n
  have J:∀{b:Addr} {o:Obj} {es:Array DictEntry} {ep:Nat},c.heap.get? b=some o->o.data= .dict es ep->H b=none:=λ {b o es ep} e d=>by
   cases q:H b with
   |none=>rfl
   |some u=>
    have L:b=a:=R b (by rw[q];simp)
    subst L
    rw[C] at e;cases e
    have d':Data.seq vs.toArray _=Data.dict es ep:=d
    cases d'
  have i:∀{b:Addr} {m:aA},c.heap.Ns b m->(lZ c.heap H).Ns b m:=λ {b m} ⟨o,es,ep,e,d,r⟩=>⟨o,es,ep,f e (J e d),d,r⟩
  have y:K.In (lZ c.heap H):=λb o e=>f (N b o e) (by
   cases q:H b with
   |none=>rfl
   |some u=>
    have L:b=a:=R b (by rw[q];simp)
    subst L
    rw[X (by rw[q];simp)] at e;cases e)
  have Y:Mod K mg (lZ c.heap H):=⟨y,i l,⟨mb,i g,E⟩,let ⟨mc,h1,h2⟩:=p;⟨mc,i h1,h2⟩⟩
  have Z:qk P w K mg (lZ c.heap H) callerA [] c H:=⟨rfl,Y,λb o e=>Tp e,Nat.le_of_eq (QI _ _),trivial,λb g=>absurd (show b∈([]:D1) from g) θ,ar,.of_eq T⟩
  refine p_ ((F _ y (i l)).run callerA [] c H ⟨[.ref a],[]⟩ [.ref a] [.ref a] _ _ U Z (j c (.ref a)) (.cons rfl .nil) (G H Q W)) λr s' h=> ?_
  cases r with
  |error e=>exact(I H e s' h).elim
  |ok fl=>
   cases fl with
   |next=>exact False.elim h
   |brk=>exact False.elim h
   |cont=>exact False.elim h
   |ret u=>
    obtain⟨v,H',os,bare,un,A,r',q⟩:=h
    have q':v= .bl true:=q
    subst q'
    obtain rfl:u=Value.bool true:=r'
    refine⟨rfl,OldK.of_keep λb o e=> ?_,os,bare⟩
    cases q:H b with
    |none=>exact un.keep b o e q (by intro z;exact absurd (show b∈([]:D1) from z) θ) θ
    |some u=>
     rcases Q b with z|⟨ob,xs,z⟩
     .rw[q] at z;cases z
     .have z2:=un.fM b ob _ z
      obtain⟨S,_⟩:=ar b _ z
      obtain⟨e2,_⟩:=A b _ z2
      rw[e] at S;cases S
      exact e2
 cases M:K.lookup a with
 |some o=>
  have e:=N a o M
  rw[C] at e
  cases e
  refine core (λ_=>none) (λ_=> .inl rfl) (.inr ⟨_,vs.toArray,_,M,rfl,rfl,rfl,by rw[bT,t];exact hl,by simpa using O⟩) (λb u z=>by have B:(none:Option HO)=some u:=z;cases B) (λb z=>absurd rfl z) λz=>absurd rfl z
 |none=>
  refine core (λb=>if b=a then some (.bZ {cls:= .type "list",data:= .seq vs.toArray} (.lst (ns.map V.int))) else none) (λb=> ?_) (.inl (.inr ⟨{cls:= .type "list",data:= .seq vs.toArray},aC rfl⟩)) (λb u z=> ?_) (λb z=> ?_) λ_=>M
  .by_cases g:b=a
   .exact .inr ⟨_,_,aC g⟩
   .exact .inl (ay g)
  .by_cases g:b=a
   .have B:=(aC g).symm.trans z
    cases B
    subst g
    exact⟨C,by rw[aQ];exact hl,vs,_,O,C⟩
   .have B:=(ay g).symm.trans z
    cases B
  .by_cases g:b=a
   .exact g
   .exact absurd (ay g) z
theorem YA{l:PySem.W.OpenLaw}{n k:Nat}{q:Program}{loose:Ap}{C:(aA)->Heap->Prop}{A:World->Heap->Prop}{d:DefRec}{K:Params->Frag}{CX:World->i_}{sp:World->Sp}{x:Str}
  (D:l.most=some n)(p:n<=sizeLine)(r:d.params.defaults=[])(E:dW k callerA)
  (I:∀(w:World) (h:Heap),A w h->(K w.params).In h)
  (F:∀(w:World) (mg:aA) (m:Addr) (h:Heap),(K w.params).In h->h.Ns mainGlobals mg->mg d.name=some (.ref m)->
   ∃fd:FuncData,(∀(s:Shared) (u:Value),BindsTo s fd ⟨[u],[]⟩ [(x,u)])/\
    ∀base:Heap,(K w.params).In base->base.Ns mainGlobals mg->f9 l.prog w (K w.params) mg base (CX w) k m fd [x] (sp w))
  (t:∀(w:World) (H:Hp) (a:Addr) (ns:DD),ns.length<=n->vt H->aU (K w.params) H a (ns.map V.int)->sp w [.ref a] H (λv _=>v= .bl true) λ_ _ _=>False)
  (y:∀(w:World) (H:Hp) (s:Shared) (e:Value) (s':Shared),CX w [] H s (λ_ _ _=>False) e s'->False):
  PySem.W.WalkO q loose C A l.row.toRowW d [] (λf vs=>PySem.call f vs):=by
 refine C7.Mr D r λw s₀ i mg mb m o pm cd doc a vs ns G Y P hd J z j hints c L=> ?_
 have B:=I w _ Y
 obtain⟨fd,M,hF⟩:=F w mg m _ B G.T.g z
 exact RW B G.T.g G.T.b G.T.builtins G.T.nolimit L j hints (dF c p) E hF M (λH N O=>t w H a ns c N O) λH e s'=>y w H i e s'
noncomputable def m8(s:Stmt):Arguments:=match s with
 |.FunctionDef _ a _ _ _ _ _ _ _ _=>a
 |_=>{posonlyargs:=[],args:=[],vararg:=none,kwonlyargs:=[],kw_defaults:=[],kwarg:=none,defaults:=[]}
def ig(s:Stmt):Fu:=match s with
 |.FunctionDef _ _ b _ _ _ _ _ _ _=>b
 |_=>[]
noncomputable def aK(s:Stmt):Scope:=match s with
 |.FunctionDef _ _ _ _ _ _ sc _ _ _=>sc
 |_=>{kind:=.function,names:=[],isGenerator:=false,isCoroutine:=false}
abbrev qh:i_:=λ_ _ _ _ _ _=>False
abbrev E0:XK:=λ_ _ _=>False
structure lO(K:Frag)(x qual:Str)(st:Stmt)(f:Addr)(fd:FuncData):Prop where
 ex:∃(oc:Value) (od:Option Addr) (kV doc pm:Value) (an:Option Addr) (cdv ct:Value) (osl:Array (Option Value)),
  fd=fnOf x qual (m8 st) (ig st) (aK st) .none kV doc pm an cdv ct/\K.lookup f=some ⟨oc,od,.func fd,osl⟩/\codeIn K cdv qual=true
 kp:keepIn K (.ref f)=true
section
variable{P:Program}{w:World}{K:Frag}{mg:aA}{base:Heap}
theorem lO.binds{x qual:Str}{st:Stmt}{f:Addr}{fd:FuncData}{ps:Ap}(F:lO K x qual st f fd)
  (h:∀(kV doc pm:Value) (an:Option Addr) (a ct:Value) (b:BM),b.length=ps.length->bindArgs (fnOf x qual (m8 st) (ig st) (aK st) .none kV doc pm an a ct) ⟨b,[]⟩=pure (ps.zip b)):Binds K fd ps []:=by
 obtain⟨e,g,kV,doc,pm,an,a,ct,c,rfl,lk,d⟩:=F.ex;exact .all (h kV doc pm an a ct)
theorem AJ{x qual:Str}{st:Stmt}{f:Addr}{d:Value}{e an:Option Addr}{b:Array (Option Value)}{kV doc pm a ct:Value}(l:K.lookup f=some ⟨d,e,.func (fnOf x qual (m8 st) (ig st) (aK st) .none kV doc pm an a ct),b⟩)
 (c:codeIn K a qual=true)(k:keepIn K (.ref f)=true):lO K x qual st f (fnOf x qual (m8 st) (ig st) (aK st) .none kV doc pm an a ct):=⟨⟨d,e,kV,doc,pm,an,a,ct,b,rfl,l,c⟩,k⟩
end
section
variable{X:Cx}
theorem MF:eG X (.builtin "len") (λxs H Q=>∃a kvs,xs=[V.ref a]/\H a=some (.dK kvs)/\Q (.int kvs.length) H):=by
 intro ae s σ H xs e Q I r h;obtain⟨a,kvs,rfl,b,q⟩:=h;obtain⟨u,rfl,c⟩:=vals1 r;cases c;exact gc I (.inl b) λt s' d=>⟨.int kvs.length,H,d,⟨t,rfl⟩,q⟩
end
theorem Rf{A B:Prop}(h:B):if false=true then A else B:=by
 rw[ay cF];exact h
theorem Rg{A B:Prop}(h:A):if true=true then A else B:=by
 rw[aC rfl];exact h
def jb(H H':Hp):Prop:=∀b o,H b=some o->H' b=some o
end L2
end
namespace PySem
open Sem (wp)
namespace ZL
abbrev kB(h:Heap)(z TI TO:Addr)(f0 f1:Value):Prop:=
 h.get? z=some {cls:=.type "zip",dict:=none,data:=.fields #[f0,f1,.bool false,.ref TI,.ref TO],slots:= #[]}
variable{prog:Program}{w:World}{A:Around}{E:aR}{s:Shared}
theorem YH{z TI TO i1 i2 l1 l2 T:Addr}{F:Obj}{m:Bool}{k1 k2:Nat}{xs ys:Array Value}{x y:Value}{Q:aR}(D:ZipApart z TI TO i1 i2 l1 l2)
  (hz:kB s.heap z TI TO (rawInt T) (.bool m))(H:s.heap.get? T=some F)(I:T≠z)(n:IsPair s.heap TI (.ref i1) (.ref i2))
  (h1:s.heap.IsListIter i1 l1 k1)(h2:s.heap.IsListIter i2 l2 k2)(q:s.heap.IsList l1 xs)(t:s.heap.IsList l2 ys)(J:xs[k1]? =some x)(K:ys[k2]? =some y)
  (L:∀h',kB h' z TI TO (rawInt T) (.bool true)->h'.IsListIter i1 l1 (k1+1)->h'.IsListIter i2 l2 (k2+1)->IsPair h' s.heap.objs.size x y->h'.objs.size=s.heap.objs.size+1->
   (∀c o,c≠z->c≠i1->c≠i2->s.heap.get? c=some o->h'.get? c=some o)->Q (.ref s.heap.objs.size) {s with heap:=h'}):
  wpAny (model prog w) A (Builtin.«zip.__next__» ⟨[.ref z],[]⟩) (λfin s'=>∃v,fin= .done (.ret v)/\Q v s') E s:=by
 show wpAny _ _ (field (.ref z) 2>>=_) _ _ _
 refine ah (ki hz rfl (x:= .bool false) rfl ?_)
 show wpAny _ _ (field (.ref z) 3>>=_) _ _ _
 refine ah (ki hz rfl (x:= .ref TI) rfl ?_)
 refine ah (rV n rfl ?_)
 show wpAny _ _ (Builtin.SmallTypes.ownedTupleIsFree (.ref z)>>=_) _ _ _
 have first:wpAny (model prog w) A (Builtin.SmallTypes.ownedTupleIsFree (.ref z)) (λb s'=>b=false/\∃f,s'={s with heap:=f}/\kB f z TI TO (rawInt T) (.bool true)/\SameBut z s.heap f) E s:=by
  unfold Builtin.SmallTypes.ownedTupleIsFree
  refine ah (ki hz rfl (x:=rawInt T) rfl ?_)
  show wpAny _ _ (loadIfAlive ((T:Int)).toNat>>=_) _ _ _
  have M:∀{R:Option Obj->Shared->Prop},R (some F) s->wpAny (model prog w) A (loadIfAlive ((T:Int)).toNat) R E s:=λ {R} h=>by
   intro O p _
   unfold loadIfAlive
   rw[Sem.wp_loadIfAlive,rR,H]
   exact h
  refine ah (M ?_)
  rw[ay θ]
  refine ah (ki hz rfl (x:= .bool m) rfl ?_)
  cases m with
  |true=>exact aF ⟨rfl,s.heap,rfl,hz,.refl ..⟩
  |false=>
   show wpAny _ _ (setField (.ref z) 1 (.bool true)>>=_) _ _ _
   exact ah (wpAny_setField_rec hz θ λf i a=>aF ⟨rfl,f,rfl,i,a⟩)
 refine ah (jK first (λb s' N=> ?_) λ_ _ e=>e)
 obtain⟨rfl,f,rfl,i,a⟩:=N
 show wpAny _ _ (forIn _ _ _>>=_) _ _ _
 refine ah ?_
 rw[<-Array.forIn_toList]
 simp only[forIn_cons,forIn_nil]
 refine ah (ah (gn ?_))
 show wpAny _ _ (Builtin.SmallTypes.nextOf (.ref i1)>>=_) _ _ _
 refine ah (CV (h1.extBut a.extBut D.i1z) (q.extBut a.extBut D.l1z) J λG k d=>aF (aF ?_))
 refine ah (ah (gn ?_))
 show wpAny _ _ (Builtin.SmallTypes.nextOf (.ref i2)>>=_) _ _ _
 refine ah (CV ((h2.extBut a.extBut D.i2z).extBut d.extBut D.i12.symm) ((t.extBut a.extBut D.l2z).extBut d.extBut D.l2i1) K λj l g=>aF (aF (aF ?_)))
 show wpAny _ _ (newTuple [x,y]>>=λr=>ret r) _ _ _
 have hsz:j.objs.size=s.heap.objs.size:=by rw[g.1,d.1,a.1]
 refine ah (gD (aF ⟨_,rfl,?_⟩) (by show 2<=sizeLine;decide))
 show Q (.ref j.objs.size) _
 rw[hsz]
 have up:∀c o,c≠z->c≠i1->c≠i2->s.heap.get? c=some o->j.get? c=some o:=λc o u B C e=>g.extBut _ _ C (d.extBut _ _ B (a.extBut _ _ u e))
 refine L _ (bu _ (g.extBut _ _ D.i2z.symm (d.extBut _ _ D.i1z.symm i))) ((k.extBut g.extBut D.i12).at λo e=>bu _ e) (l.at λo e=>bu _ e) ?_ (by rw[fB,hsz]) λc o u B C e=>bu _ (up c o u B C e)
 rw[<-hsz]
 exact cy _ rfl
theorem Ue{z TI TO T:Addr}{f:Obj}{e:Bool}(hz:kB s.heap z TI TO (rawInt T) (.bool e))(g:s.heap.get? T=some f):
  wpAny (model prog w) A (Builtin.SmallTypes.ownedTupleIsFree (.ref z)) (λb s'=>b=false/\∃a,s'={s with heap:=a}/\kB a z TI TO (rawInt T) (.bool true)/\SameBut z s.heap a) E s:=by
 unfold Builtin.SmallTypes.ownedTupleIsFree;refine ah (ki hz rfl (x:=rawInt T) rfl ?_);show wpAny _ _ (loadIfAlive ((T:Int)).toNat>>=_) _ _ _;have i:∀{R:Option Obj->Shared->Prop},R (some f) s->wpAny (model prog w) A (loadIfAlive ((T:Int)).toNat) R E s:=λ {R} h=>by
  intro j p _;unfold loadIfAlive;rw[Sem.wp_loadIfAlive,rR,g];exact h
 refine ah (i ?_);rw[ay θ];refine ah (ki hz rfl (x:=.bool e) rfl ?_);cases e with
 |true=>exact aF ⟨rfl,s.heap,rfl,hz,.refl ..⟩
 |false=>
  show wpAny _ _ (setField (.ref z) 1 (.bool true)>>=_) _ _ _;exact ah (wpAny_setField_rec hz θ λa c d=>aF ⟨rfl,a,rfl,c,d⟩)
theorem YG{z TI TO i1 i2 l1 l2 T:Addr}{C:Obj}{F:Bool}{k1 k2:Nat}{xs ys:Array Value}{Q:Fin->Shared->Prop}(v:A.handled=none)(D:ZipApart z TI TO i1 i2 l1 l2)
  (hz:kB s.heap z TI TO (rawInt T) (.bool F))(G:s.heap.get? T=some C)(l:IsPair s.heap TI (.ref i1) (.ref i2))
  (h1:s.heap.IsListIter i1 l1 k1)(h2:s.heap.IsListIter i2 l2 k2)(i:s.heap.IsList l1 xs)(m:s.heap.IsList l2 ys)(j:xs[k1]? =none\/ys[k2]? =none)
  (y:∀h' e,(∀c o,c≠z->c≠i1->c≠i2->s.heap.get? c=some o->h'.get? c=some o)->(∃o,h'.get? e=some o/\o.cls= .type "StopIteration")->E (.ref e) {s with heap:=h'}):
  wpAny (model prog w) A (Builtin.«zip.__next__» ⟨[.ref z],[]⟩) Q E s:=by
 show wpAny _ _ (field (.ref z) 2>>=_) _ _ _
 refine ah (ki hz rfl (x:= .bool false) rfl ?_)
 show wpAny _ _ (field (.ref z) 3>>=_) _ _ _
 refine ah (ki hz rfl (x:= .ref TI) rfl ?_)
 refine ah (rV l rfl ?_)
 show wpAny _ _ (Builtin.SmallTypes.ownedTupleIsFree (.ref z)>>=_) _ _ _
 refine ah (jK (Ue hz G) (λb s' H=> ?_) λ_ _ e=>e)
 obtain⟨rfl,B,rfl,n,a⟩:=H
 show wpAny _ _ (forIn _ _ _>>=_) _ _ _
 refine ah ?_
 rw[<-Array.forIn_toList]
 simp only[forIn_cons,forIn_nil]
 refine ah (ah (gn ?_))
 show wpAny _ _ (Builtin.SmallTypes.nextOf (.ref i1)>>=_) _ _ _
 cases p:xs[k1]? with
 |none=>
  refine ah (wpAny_nextOf_list_end v (h1.extBut a.extBut D.i1z) (i.extBut a.extBut D.l1z) p λf e d q=> ?_)
  exact y f e (λc o r t _ x=>d _ _ t (a.extBut _ _ r x)) q
 |some x=>
  have I:ys[k2]? =none:=by rcases j with h|h;rw[p] at h;cases h;exact h
  refine ah (CV (h1.extBut a.extBut D.i1z) (i.extBut a.extBut D.l1z) p λf u d=>aF (aF ?_))
  refine ah (ah (gn ?_))
  show wpAny _ _ (Builtin.SmallTypes.nextOf (.ref i2)>>=_) _ _ _
  refine ah (wpAny_nextOf_list_end v ((h2.extBut a.extBut D.i2z).extBut d.extBut D.i12.symm) ((m.extBut a.extBut D.l2z).extBut d.extBut D.l2i1) I λk e g q=> ?_)
  exact y k e (λc o r t J x=>g _ _ J (d.extBut _ _ t (a.extBut _ _ r x))) q
theorem Vo{z TI TO i1 i2 l1 l2 T:Addr}{g:Obj}{h:Bool}{k1 k2:Nat}{xs ys:Array Value}{x y:Value}{Q:Option Value->Shared->Prop}(D:ZipApart z TI TO i1 i2 l1 l2)
  (hz:kB s.heap z TI TO (rawInt T) (.bool h))(i:s.heap.get? T=some g)(b:T≠z)(d:IsPair s.heap TI (.ref i1) (.ref i2))
  (h1:s.heap.IsListIter i1 l1 k1)(h2:s.heap.IsListIter i2 l2 k2)(e:s.heap.IsList l1 xs)(f:s.heap.IsList l2 ys)(j:xs[k1]? =some x)(k:ys[k2]? =some y)
  (l:∀h',kB h' z TI TO (rawInt T) (.bool true)->h'.IsListIter i1 l1 (k1+1)->h'.IsListIter i2 l2 (k2+1)->IsPair h' s.heap.objs.size x y->h'.objs.size=s.heap.objs.size+1->
   (∀c o,c≠z->c≠i1->c≠i2->s.heap.get? c=some o->h'.get? c=some o)->Q (some (.ref s.heap.objs.size)) {s with heap:=h'}):
  wpAny (model prog w) A (pyNext (.ref z)) Q E s:=by
 have a:s.TypeIs (.ref z) "zip":=⟨_,hz,rfl⟩
 unfold pyNext
 exact ah (nL (nM (name:=Str.ofString "__next__") a yU
  (jo yU a F.entry_zip_next
   (YH D hz i b d h1 h2 e f j k λh' a1 a2 m n p q=>aF (l h' a1 a2 m n p q)) (F.args_zip_next_1 _))))
theorem Vn{z TI TO i1 i2 l1 l2 T:Addr}{i:Obj}{j:Bool}{k1 k2:Nat}{xs ys:Array Value}{Q:Option Value->Shared->Prop}(k:A.handled=none)(D:ZipApart z TI TO i1 i2 l1 l2)
  (hz:kB s.heap z TI TO (rawInt T) (.bool j))(l:s.heap.get? T=some i)(f:IsPair s.heap TI (.ref i1) (.ref i2))
  (h1:s.heap.IsListIter i1 l1 k1)(h2:s.heap.IsListIter i2 l2 k2)(g:s.heap.IsList l1 xs)(h:s.heap.IsList l2 ys)(a:xs[k1]? =none\/ys[k2]? =none)
  (m:∀h',(∀c o,c≠z->c≠i1->c≠i2->s.heap.get? c=some o->h'.get? c=some o)->Q none {s with heap:=h'}):wpAny (model prog w) A (pyNext (.ref z)) Q E s:=by
 have d:s.TypeIs (.ref z) "zip":=⟨_,hz,rfl⟩
 unfold pyNext
 refine ah (nL (nM (name:=Str.ofString "__next__") d yU
  (jo yU d F.entry_zip_next (YG k D hz l f h1 h2 g h a λh' e n p=> ?_) (F.args_zip_next_1 _))))
 obtain⟨o,q,hc⟩:=p
 refine ah (yW (T:="StopIteration") (b:=true) ⟨o,q,hc⟩ isSubtype_stop ?_)
 exact aF (m _ n)
structure ZS(z TI TO i1 i2 l1 l2 base:Addr)(xs ys:Array Value)(k:Nat)(h:Heap):Prop where
 zip:(k=0/\IsZip h z TI TO .none)\/(0<k/\∃bb,kB h z TI TO (rawInt base) (.bool bb))
 ti:IsPair h TI (.ref i1) (.ref i2)
 to:∃a b,IsPair h TO a b
 qO:h.IsListIter i1 l1 k
 qP:h.IsListIter i2 l2 k
 iT:h.IsList l1 xs
 j4:h.IsList l2 ys
 sz:h.objs.size=base+k
 old:∀(j:Nat) x y,j<k->xs[j]? =some x->ys[j]? =some y->IsPair h (base+j) x y
structure mX(z TI TO i1 i2 l1 l2 base:Addr):Prop where
 z:z<base
 to:TO<base
 i1:i1<base
 i2:i2<base
theorem ZS.ax{z TI TO i1 i2 l1 l2 base S:Addr}{xs ys:Array Value}{k:Nat}{h h':Heap}(Z:ZS z TI TO i1 i2 l1 l2 base xs ys k h)(c:∀b o,b≠S->h.get? b=some o->h'.get? b=some o)(d:h'.objs.size=h.objs.size)
  (n1:z≠S)(n2:TI≠S)(n3:TO≠S)(n4:i1≠S)(n5:i2≠S)(n6:l1≠S)(n7:l2≠S)(n8:S<base):ZS z TI TO i1 i2 l1 l2 base xs ys k h' where
 zip:=by
  rcases Z.zip with⟨e,q⟩|⟨e,f,q⟩
  .exact .inl ⟨e,c _ _ n1 q⟩
  .exact .inr ⟨e,f,c _ _ n1 q⟩
 ti:=c _ _ n2 Z.ti
 to:=let ⟨a,b,q⟩:=Z.to;⟨a,b,c _ _ n3 q⟩
 qO:=Z.qO.at λo e=>c _ o n4 e
 qP:=Z.qP.at λo e=>c _ o n5 e
 iT:=Z.iT.at λo e=>c _ o n6 e
 j4:=Z.j4.at λo e=>c _ o n7 e
 sz:=d.trans Z.sz
 old:=λj x y g i l=>c _ _ (kg (cY n8 (lz _ _))) (Z.old j x y g i l)
theorem YL{z TI TO i1 i2 l1 l2 base:Addr}{xs ys:Array Value}{k:Nat}{x y:Value}{Q:Option Value->Shared->Prop}(D:ZipApart z TI TO i1 i2 l1 l2)(L:mX z TI TO i1 i2 l1 l2 base)
  (Z:ZS z TI TO i1 i2 l1 l2 base xs ys k s.heap)(g:xs[k]? =some x)(h:ys[k]? =some y)
  (M:∀h',ZS z TI TO i1 i2 l1 l2 base xs ys (k+1) h'->(∀c o,c≠z->c≠TO->c≠i1->c≠i2->s.heap.get? c=some o->h'.get? c=some o)->Q (some (.ref (base+k))) {s with heap:=h'}):
  wpAny (model prog w) A (pyNext (.ref z)) Q E s:=by
 obtain⟨a,b,f⟩:=Z.to
 have new:∀h',(∀c o,c≠z->c≠TO->c≠i1->c≠i2->s.heap.get? c=some o->h'.get? c=some o)->IsPair h' s.heap.objs.size x y->∀(j:Nat) i l,j<k+1->xs[j]? =some i->ys[j]? =some l->IsPair h' (base+j) i l:=λh' d O j i l P m n=>by
  by_cases p:j=k
  .subst p
   rw[g] at m;rw[h] at n;cases m;cases n
   rw[<-Z.sz]
   exact O
  .have lo:∀c,c<base->base+j≠c:=λc hc e=>absurd (cY hc (lz base j)) (by rw[e];exact fJ _)
   exact d _ _ (lo _ L.z) (lo _ L.to) (lo _ L.i1) (lo _ L.i2) (Z.old j i l ω m n)
 rcases Z.zip with⟨e,q⟩|⟨e,R,q⟩
 .subst e
  refine wpAny_pyNext_zip_item D q Z.ti f Z.qO Z.qP Z.iT Z.j4 g h λh' a1 a2 t u v B d=> ?_
  have C:s.heap.objs.size=base:=Z.sz
  have r:=M h' ⟨.inr ⟨succ_pos _,false,by rw[C] at a1;exact a1⟩,d _ _ D.TIz D.TITO D.TIi1 D.TIi2 Z.ti,⟨_,_,a2⟩,t,u,Z.iT.at λo e=>d _ o D.l1z D.l1TO D.l1i1 D.l1i2 e,Z.j4.at λo e=>d _ o D.l2z D.l2TO D.l2i1 D.l2i2 e,
   by rw[B,C],new h' d v⟩ d
  rw[C]
  exact r
 .obtain⟨x0,F⟩:∃x0,xs[0]? =some x0:=⟨xs[0]'(by have:=(yK.mp g).1;omega),gV _⟩
  obtain⟨G,H⟩:∃G,ys[0]? =some G:=⟨ys[0]'(by have:=(yK.mp h).1;omega),gV _⟩
  have N:=Z.old 0 x0 G e F H
  rw[Nat.add_zero] at N
  refine Vo D q N (kg L.z) Z.ti Z.qO Z.qP Z.iT Z.j4 g h λh' a1 t u v B d=> ?_
  have r:=M h' ⟨.inr ⟨succ_pos _,true,a1⟩,d _ _ D.TIz D.TIi1 D.TIi2 Z.ti,⟨_,_,d _ _ D.TOz D.TOi1 D.TOi2 f⟩,t,u,Z.iT.at λo e=>d _ o D.l1z D.l1i1 D.l1i2 e,Z.j4.at λo e=>d _ o D.l2z D.l2i1 D.l2i2 e,
   by rw[B,Z.sz];rfl,new h' (λc o I _ J K e=>d c o I J K e) v⟩ λc o I _ J K e=>d c o I J K e
  rw[Z.sz]
  exact r
theorem YK{z TI TO i1 i2 l1 l2 base:Addr}{xs ys:Array Value}{k:Nat}{Q:Option Value->Shared->Prop}(j:A.handled=none)(D:ZipApart z TI TO i1 i2 l1 l2)
  (Z:ZS z TI TO i1 i2 l1 l2 base xs ys k s.heap)(d:k=min xs.size ys.size)
  (l:∀h',(∀c o,c≠z->c≠TO->c≠i1->c≠i2->s.heap.get? c=some o->h'.get? c=some o)->Q none {s with heap:=h'}):wpAny (model prog w) A (pyNext (.ref z)) Q E s:=by
 obtain⟨a,b,f⟩:=Z.to
 have m:xs[k]? =none\/ys[k]? =none:=by
  subst d
  rcases Nat.le_total xs.size ys.size with h|h
  .exact .inl (by rw[Nat.min_eq_left h];exact su (aJ _))
  .exact .inr (by rw[Nat.min_eq_right h];exact su (aJ _))
 rcases Z.zip with⟨e,q⟩|⟨e,v,q⟩
 .exact wpAny_pyNext_zip_end j D q Z.ti f Z.qO Z.qP Z.iT Z.j4 m l
 .have g:0<xs.size:=ω
  have i:0<ys.size:=ω
  have n:=Z.old 0 _ _ e (gV g) (gV i)
  rw[Nat.add_zero] at n
  exact Vn j D q n Z.ti Z.qO Z.qP Z.iT Z.j4 m λh' p=>l h' λc o r _ t u e=>p c o r t u e
def fE(base k:Nat):Array Value:=((range k).map λj=>Value.ref (base+j)).toArray
theorem Vw(base k:Nat):fE base (k+1)=(fE base k).push (.ref (base+k)):=by
 unfold fE;rw[range_succ,di];simp
theorem B9(base k:Nat):(fE base k).size=k:=by simp[fE]
namespace F
theorem YJ:typeLookup (.type "zip") "__len__"=pure none:=by rw[mO,mR];kernel_rfl
theorem YI:typeLookup (.type "zip") "__length_hint__"=pure none:=by rw[mO,mR];kernel_rfl
end F
section
variable{prog:Program}{w:World}{A:Around}{s:Shared}{R:Result->Shared->Prop}{z TI TO i1 i2 l1 l2 base S:Addr}{xs ys:Array Value}
structure oj(z TI TO i1 i2 l1 l2 base S:Addr):Prop where
 n1:z≠S
 n2:TI≠S
 n3:TO≠S
 n4:i1≠S
 n5:i2≠S
 n6:l1≠S
 n7:l2≠S
 n8:S<base
theorem OJ(H:A.handled=none)(D:ZipApart z TI TO i1 i2 l1 l2)(L:mX z TI TO i1 i2 l1 l2 base)(O:oj z TI TO i1 i2 l1 l2 base S)(U:min xs.size ys.size<=sizeLine)(res:Value):
  ∀(m k:Nat) (s:Shared) (c:Nat),min xs.size ys.size - k=m->k<=min xs.size ys.size->ZS z TI TO i1 i2 l1 l2 base xs ys k s.heap->s.heap.get? S=some {cls:=.type "list",dict:=none,data:=.seq (fE base k) c,slots:= #[]}->
  (∀h' c',(∀(j:Nat) x y,xs[j]?=some x->ys[j]?=some y->IsPair h' (base+j) x y)->h'.get? S=some {cls:=.type "list",dict:=none,data:=.seq (fE base (min xs.size ys.size)) c',slots:= #[]}->
   (∀b o,b≠S->b≠z->b≠TO->b≠i1->b≠i2->s.heap.get? b=some o->h'.get? b=some o)->R (.ok (.ret res)) {s with heap:=h'})->
  codeAny (model prog w) A (.builtin "list.extend.loop" ⟨[.ref S,.ref z,res],[]⟩) R s:=by
 have lo:∀(c j:Nat),c<base->base+j≠c:=λc j hc e=>absurd (cY hc (lz base j)) (by rw[e];exact fJ _);intro m;induction m with
 |zero=>
  intro k s c I J i r t;have f:k=min xs.size ys.size:=ω
  refine i9 PySem.F.entry_extend_loop ?_;rw[jL u5 _];show wpAny _ A.in1 (pyNext (.ref z)>>=_) _ _ s;refine ah (YK (A:=A.in1) H D i f λh' a=>?_);refine aF (t h' c (λj x y E G=>?_) ?_ λb o u l n p q e=>a b o l n p q e)
  .have K:j<k:=by
    have V:=(yK.mp E).1;have W:=(yK.mp G).1;omega
   exact a _ _ (lo _ _ L.z) (lo _ _ L.to) (lo _ _ L.i1) (lo _ _ L.i2) (i.old j x y K E G)
  .rw[<-f]
   exact a _ _ O.n1.symm O.n3.symm O.n4.symm O.n5.symm r
 |succ m M=>
  intro k s c I J i r t;have v:k<min xs.size ys.size:=ω
  have N:xs[k]?=some (xs[k]' ω):=gV _;have P:ys[k]?=some (ys[k]' ω):=gV _;refine i9 PySem.F.entry_extend_loop ?_;rw[jL u5 _];show wpAny _ A.in1 (pyNext (.ref z)>>=_) _ _ s;refine ah (YL (A:=A.in1) D L i N P λh' B a=>?_);have g:=a _ _ O.n1.symm O.n3.symm O.n4.symm O.n5.symm r;show wpAny _ A.in1 (updateSeq S (·.push (.ref (base+k)))>>=_) _ _ _;refine ah ?_;have h:∀b o,b≠S->h'.get? b=some o->(h'.update S (Obj.mapSeq (·.push (.ref (base+k))))).get? b=some o:=λb o Q e=>(qe _ _ (Ne.symm Q)).trans e;have C:=ku (Obj.mapSeq (·.push (.ref (base+k)))) g rfl;have d:∃n',(h'.update S (Obj.mapSeq (·.push (.ref (base+k))))).get? S=some {cls:=.type "list",dict:=none,data:=.seq ((fE base k).push (.ref (base+k))) n',slots:= #[]}:=⟨_,C⟩;obtain⟨n',d⟩:=d;rw[<-Vw] at d;refine rY g rfl (aF ⟨kh u5 _,M (k+1) _ n' ω v (B.ax h (pS ..) O.n1 O.n2 O.n3 O.n4 O.n5 O.n6 O.n7 O.n8) d λh'' c' a1 a2 T=>?_⟩)
   (by rw[B9];omega) (by show((fE base k).push _).size<=sizeLine+1;rw[Array.size_push,B9];omega)
  .exact t h'' c' a1 a2 λb o u l n p q e=>T b o u l n p q (h b o u (a b o l n p q e))
theorem F2(n:A.handled=none)(D:ZipApart z TI TO i1 i2 l1 l2)(L:mX z TI TO i1 i2 l1 l2 base)(O:oj z TI TO i1 i2 l1 l2 base S)(p:min xs.size ys.size<=sizeLine)(res:Value)(c₀:Nat)
  (i:ZS z TI TO i1 i2 l1 l2 base xs ys 0 s.heap)(k:s.heap.get? S=some {cls:= .type "list",data:= .seq #[] c₀})
  (r:∀h' c',(∀(j:Nat) x y,xs[j]? =some x->ys[j]? =some y->IsPair h' (base+j) x y)->h'.get? S=some {cls:= .type "list",dict:=none,data:= .seq (fE base (min xs.size ys.size)) c',slots:= #[]}->
   (∀b o,b≠S->b≠z->b≠TO->b≠i1->b≠i2->s.heap.get? b=some o->h'.get? b=some o)->R (.ok (.ret res)) {s with heap:=h'}):
  wpAny (model prog w) A.in1 (Builtin.List.listExtendWith (.ref S) (.ref z) res)
   (λfin s'=>match fin with| .done f=>R (.ok f) s'| .again c'=>c'.quiet=true/\codeAny (model prog w) A c' R s') (λe s'=>R (.error e) s') s:=by
 have d:IsZip s.heap z TI TO .none:=by
  rcases i.zip with⟨_,q⟩|⟨e,_⟩
  .exact q
  .exact absurd e (fJ _)
 have h:s.TypeIs (.ref z) "zip":=⟨_,d,rfl⟩
 unfold Builtin.List.listExtendWith
 refine ah (lI h ?_)
 have h1:Builtin.List.listSameRef (.ref S) (.ref z)=false:=by simp[Builtin.List.listSameRef,O.n1.symm]
 have h2:(Value.type "zip" ==Value.type "list")=false:=δ
 have t:(Value.type "zip" ==Value.type "tuple")=false:=δ
 simp only[h1,h2,t,yM,jM,gz]
 refine ah (wpAny_pyIter_zip d ?_)
 refine ah (gn ?_)
 unfold Builtin.List.listLengthHint
 refine ah (wpAny_specialOf h F.YJ ?_)
 show wpAny _ A.in1 (specialOf (Value.ref z) (Str.ofString "__length_hint__")>>=_) _ _ _
 refine ah (wpAny_specialOf h F.YI ?_)
 refine aF ?_
 show wpAny _ A.in1 (rule "list.extend.makes-room">>=λ_=>Builtin.List.listTouch (.ref S)>>=λ_=>
  again (.builtin "list.extend.loop" ⟨[.ref S,.ref z,res],[]⟩)) _ _ _
 refine ah (kj ?_)
 refine ah ?_
 show wpAny _ A.in1 (updateSeq S (·.push .none)>>=λ_=>updateSeq S (·.pop)) _ _ _
 refine ah (rY k rfl ?_)
 have a:=ku (Obj.mapSeq (·.push Value.none)) k rfl
 refine rY (hz:=by seq_fits) a rfl ?_
 have c:=ku (Obj.mapSeq (·.pop)) a rfl
 have g:∀b o,b≠S->s.heap.get? b=some o->((s.heap.update S (Obj.mapSeq (·.push Value.none))).update S (Obj.mapSeq (·.pop))).get? b=some o:=
  λb o l e=>(qe _ _ (Ne.symm l)).trans ((qe _ _ (Ne.symm l)).trans e)
 refine aF ⟨kh u5 _,OJ n D L O p res _ 0 _ _ rfl (cA _) (i.ax g (by rw[pS,pS]) O.n1 O.n2 O.n3 O.n4 O.n5 O.n6 O.n7 O.n8) c λh' c' a1 a2 u=> ?_⟩
 exact r h' c' a1 a2 λb o m v B C E e=>u b o m v B C E (g b o m e)
theorem R4(h:A.handled=none)(D:ZipApart z TI TO i1 i2 l1 l2)(L:mX z TI TO i1 i2 l1 l2 base)(O:oj z TI TO i1 i2 l1 l2 base S)(i:min xs.size ys.size<=sizeLine)
  (k:ZS z TI TO i1 i2 l1 l2 base xs ys 0 s.heap)(d:s.heap.get? S=some {cls:= .type "list",data:= .seq #[]})
  (l:∀h' c',(∀(j:Nat) x y,xs[j]? =some x->ys[j]? =some y->IsPair h' (base+j) x y)->h'.get? S=some {cls:= .type "list",dict:=none,data:= .seq (fE base (min xs.size ys.size)) c',slots:= #[]}->
   (∀b o,b≠S->b≠z->b≠TO->b≠i1->b≠i2->s.heap.get? b=some o->h'.get? b=some o)->R (.ok (.ret .none)) {s with heap:=h'}):
  wpAny (model prog w) A.in1 (Builtin.«list.__init__» ⟨[.ref S,.ref z],[]⟩)
   (λfin s'=>match fin with| .done f=>R (.ok f) s'| .again c'=>c'.quiet=true/\codeAny (model prog w) A c' R s') (λe s'=>R (.error e) s') s:=by
 show wpAny _ A.in1 (do let old <-Builtin.List.listItems (.ref S);Builtin.List.listUpdate (.ref S) (λ_=> #[]);letGo old.toList.reverse;Builtin.List.listExtendWith (.ref S) (.ref z) .none) _ _ s
 refine ah ?_
 unfold Builtin.List.listItems
 refine ah (rV d rfl (aF ?_))
 show wpAny _ A.in1 (updateSeq S (λ_=> #[])>>=λ_=>letGo (#[]:Array Value).toList.reverse>>=λ_=>Builtin.List.listExtendWith (.ref S) (.ref z) .none) _ _ s
 refine ah (rY d rfl ?_)
 have a:=ku (Obj.mapSeq (λ_=>(#[]:Array Value))) d rfl
 have c:∀b o,b≠S->s.heap.get? b=some o->(s.heap.update S (Obj.mapSeq (λ_=>(#[]:Array Value)))).get? b=some o:=
  λb o m e=>(qe _ _ (Ne.symm m)).trans e
 refine ah (wpAny_letGo ?_)
 refine F2 h D L O i .none _ (k.ax c (pS ..) O.n1 O.n2 O.n3 O.n4 O.n5 O.n6 O.n7 O.n8) a λh' c' a1 a2 n=> ?_
 exact l h' c' a1 a2 λb o g p q r t e=>n b o g p q r t (c b o g e)
end
theorem R6{l1 l2:Addr}{xs ys:Array Value}{Q:aR}(q:A.handled=none)(d:s.heap.IsList l1 xs)(f:s.heap.IsList l2 ys)(r:min xs.size ys.size<=sizeLine)
  (t:∀h' c',(∀(j:Nat) x y,xs[j]?=some x->ys[j]?=some y->IsPair h' (s.heap.objs.size+6+j) x y)->
   h'.get? (s.heap.objs.size+5)=some {cls:=.type "list",dict:=none,data:=.seq (fE (s.heap.objs.size+6) (min xs.size ys.size)) c',slots:= #[]}->
   (∀b o,s.heap.get? b=some o->h'.get? b=some o)->Q (.ref (s.heap.objs.size+5)) {s with heap:=h'}):
  wpAny (model prog w) A (call (.type "zip") [.ref l1,.ref l2]) (λz a=>wpAny (model prog w) A (call (.type "list") [z]) Q E a) E s:=by
 have u: @LT.lt Nat _ l1 s.heap.objs.size:=by obtain⟨_,e,_⟩:=d;exact aW e
 have v: @LT.lt Nat _ l2 s.heap.objs.size:=by obtain⟨_,e,_⟩:=f;exact aW e
 refine call_zip_2 d f λc hz h i k l hsz m=>?_;have D:ZipApart (s.heap.objs.size+4) (s.heap.objs.size+2) (s.heap.objs.size+3) s.heap.objs.size (s.heap.objs.size+1) l1 l2:=by
  constructor<;>first|(show(_:Nat)<(_:Nat);omega)|(intro e;have n: @Eq Nat _ _:=e;omega)
 have L:mX (s.heap.objs.size+4) (s.heap.objs.size+2) (s.heap.objs.size+3) s.heap.objs.size (s.heap.objs.size+1) l1 l2 (s.heap.objs.size+6):=by
  constructor<;>first|(show(_:Nat)<(_:Nat);omega)|(intro e;have n: @Eq Nat _ _:=e;omega)
 have O:oj (s.heap.objs.size+4) (s.heap.objs.size+2) (s.heap.objs.size+3) s.heap.objs.size (s.heap.objs.size+1) l1 l2 (s.heap.objs.size+6) (s.heap.objs.size+5):=by
  constructor<;>first|(show(_:Nat)<(_:Nat);omega)|(intro e;have n: @Eq Nat _ _:=e;omega)
 refine callType_codes (Q₁:=λobj a=>obj=.ref (s.heap.objs.size+5)/\a={s with heap:=c.push {cls:=.type "list",data:=.seq #[]}}) PySem.F.called_list (PySem.F.typeCall_list_1 _) PySem.F.entry_list_init
  (code_list_new _ ⟨by show Value.ref c.objs.size=_;rw[hsz],rfl⟩) λobj a g=>?_
 obtain⟨rfl,rfl⟩:=g;have p:(c.push {cls:=.type "list",data:=.seq #[]}).get? (s.heap.objs.size+5)=some {cls:=.type "list",data:=.seq #[]}:=by rw[<-hsz];exact cy _ rfl
 have B:ZS (s.heap.objs.size+4) (s.heap.objs.size+2) (s.heap.objs.size+3) s.heap.objs.size (s.heap.objs.size+1) l1 l2 (s.heap.objs.size+6) xs ys 0 (c.push {cls:=.type "list",data:=.seq #[]}):=
  ⟨.inl ⟨rfl,bu _ hz⟩,bu _ h,⟨_,_,bu _ i⟩,k.at λo e=>bu _ e,l.at λo e=>bu _ e,
   d.at λo e=>bu _ (m _ o e),f.at λo e=>bu _ (m _ o e),by rw[fB,hsz],λj x y C=>absurd C (Nat.not_lt_zero _)⟩
 refine⟨⟨_,p,rfl⟩,PySem.F.args_list_init_2 _ _,R4 (A:=A.in1) q D L O r B p λh' c' a1 a2 G=>⟨rfl,t h' c' a1 a2 λb o e=>?_⟩⟩;have H: @LT.lt Nat _ b s.heap.objs.size:=aW e;have ne:∀j:Nat,b≠s.heap.objs.size+j:=λj z=>by have I: @Eq Nat b (s.heap.objs.size+j):=z;omega
 exact G b o (ne 5) (ne 4) (ne 3) (ne 0) (ne 1) (bu _ (m b o e))
end ZL
end PySem
section
open PySem PySem.Spec PyProof.Rows
namespace L2
def dh:List (Str×NameKind)->Ap
 |[]=>[]
 |(n,k)::r=>if (k==NameKind.free)=true then n::dh r else dh r
noncomputable def eT(env:Env):List (Str×NameKind)->List (Str×Addr)->List (Str×Addr)
 |[],acc=>acc
 |(n,k)::r,acc=>if (k==NameKind.free)=true then eT env r ((n,(env.cells.lookup n).getD 0)::acc) else eT env r acc
theorem Aa{env:Env}{f:(Str×NameKind)->List (Str×Addr)->Sem (ForInStep (List (Str×Addr)))}
  (h1:∀n k cs c,(k==NameKind.free)=true->env.cells.lookup n=some c->f (n,k) cs=pure (.yield ((n,c)::cs)))(h2:∀n k cs,(k==NameKind.free)=false->f (n,k) cs=pure (.yield cs)):
  ∀(names:List (Str×NameKind)) (acc:List (Str×Addr)),(∀n∈dh names,∃c,env.cells.lookup n=some c)->forIn names acc f=pure (eT env names acc)
 |[],acc,_=>by rw[forIn_nil];rfl
 |(n,k)::r,acc,h=>by
  rw[forIn_cons];cases e:(k==NameKind.free) with
  |true=>
   have b:dh ((n,k)::r)=n::dh r:=by show(if (k==NameKind.free)=true then n::dh r else dh r)=_;rw[aC e]
   obtain⟨c,hc⟩:=h n (by rw[b];exact bA);rw[h1 n k acc c e hc,pure_bind];show forIn r ((n,c)::acc) f=_;rw[Aa h1 h2 r _ λm d=>h m (by rw[b];exact bz _ d)];have a:eT env ((n,k)::r) acc=eT env r ((n,(env.cells.lookup n).getD 0)::acc):=by
    show(if (k==NameKind.free)=true then _ else _)=_;rw[aC e]
   rw[a,hc];rfl
  |false=>
   have b:dh ((n,k)::r)=dh r:=by show(if (k==NameKind.free)=true then n::dh r else dh r)=_;rw[ay (by rw[e];decide)]
   rw[h2 n k acc e,pure_bind];show forIn r acc f=_;rw[Aa h1 h2 r _ λm d=>h m (by rw[b];exact d)];have a:eT env ((n,k)::r) acc=eT env r acc:=by
    show(if (k==NameKind.free)=true then _ else _)=_;rw[ay (by rw[e];decide)]
   rw[a]
theorem EA{scope:Scope}{env:Env}(h:∀n∈dh scope.names,∃c,env.cells.lookup n=some c):closureFor scope env=pure (eT env scope.names []):=by
 unfold closureFor;show(forIn scope.names [] _>>=_)=_;rw[Aa (env:=env) (λn k cs c a hc=>?_) (λn k cs a=>?_) scope.names [] h]
 .exact pure_bind _ _
 .dsimp only
  rw[aC a];unfold cellOf;rw[hc];rfl
 .dsimp only
  rw[ay (by rw[a];decide)]
theorem sW{env:Env}{x:Str}:∀(names:List (Str×NameKind)) (acc:List (Str×Addr)),(∀n∈dh names,∃c,env.cells.lookup n=some c)->
  (eT env names acc).lookup x=if x∈dh names then env.cells.lookup x else acc.lookup x
 |[],acc,_=>by simp[eT,dh]
 |(n,k)::r,acc,h=>by
  cases e:(k==NameKind.free) with
  |true=>
   have b:dh ((n,k)::r)=n::dh r:=by show(if (k==NameKind.free)=true then n::dh r else dh r)=_;rw[aC e]
   obtain⟨c,hc⟩:=h n (by rw[b];exact bA);have a:eT env ((n,k)::r) acc=eT env r ((n,(env.cells.lookup n).getD 0)::acc):=by
    show(if (k==NameKind.free)=true then _ else _)=_;rw[aC e]
   rw[a,b,sW r _ λm f=>h m (by rw[b];exact bz _ f)];by_cases d:x∈dh r
   .rw[aC d,aC (bz _ d)]
   .rw[ay d]
    by_cases g:x=n
    .subst g
     rw[aC bA,hc];simp
    .rw[ay (by intro z;rcases bx.mp z with z|z;exact g z;exact d z)]
     have i:(x==n)=false:=by simpa using g
     rw[fR,i]
  |false=>
   have b:dh ((n,k)::r)=dh r:=by show(if (k==NameKind.free)=true then n::dh r else dh r)=_;rw[ay (by rw[e];decide)]
   have a:eT env ((n,k)::r) acc=eT env r acc:=by
    show(if (k==NameKind.free)=true then _ else _)=_;rw[ay (by rw[e];decide)]
   rw[a,b,sW r _ λm f=>h m (by rw[b];exact f)]
theorem z0{x:Str}{c:Addr}:∀(names:List (Str×NameKind)) (n:Nat) (acc:List (Str×Addr)),(cellsFrom n names acc).lookup x=some c->(n<=c/\(x,NameKind.cell)∈names)\/acc.lookup x=some c
 |[],n,acc,h=>.inr h
 |(m,k)::r,n,acc,h=>by
  unfold cellsFrom at h;split at h
  .rename_i a
   rcases z0 r _ _ h with⟨h1,h2⟩|h1
   .exact .inl ⟨ω,bz _ h2⟩
   .rw[fR] at h1
    split at h1
    .rename_i b
     cases h1;exact .inl ⟨aJ _,by rw[kr.mp b,<-kr.mp a];exact bA⟩
    .exact .inr h1
  .rcases z0 r _ _ h with⟨h1,h2⟩|h1
   .exact .inl ⟨h1,bz _ h2⟩
   .exact .inr h1
theorem zZ:∀(names:List (Str×NameKind)) (n:Nat) (acc:List (Str×Addr)),(∀x y c,acc.lookup x=some c->acc.lookup y=some c->x=y)->(∀x c,acc.lookup x=some c->c<n)->
  ∀x y c,(cellsFrom n names acc).lookup x=some c->(cellsFrom n names acc).lookup y=some c->x=y
 |[],_,_,h,_=>h
 |(m,k)::r,n,acc,h,hl=>by
  unfold cellsFrom;split
  .refine zZ r _ _ (λx y c d e=>?_) λx c d=>?_
   .rw[fR] at d e
    split at d<;>split at e
    .rename_i _ a _ b
     rw[kr.mp a,kr.mp b]
    .cases d
     exact absurd (hl _ _ e) (fJ _)
    .cases e
     exact absurd (hl _ _ d) (fJ _)
    .exact h x y c d e
   .rw[fR] at d
    split at d
    .cases d;exact kc _
    .exact gm (hl _ _ d)
  .exact zZ r _ _ h hl
theorem z4{x:Str}:∀(names:List (Str×NameKind)) (n:Nat) (acc:List (Str×Addr)),(x,NameKind.cell)∉names->(cellsFrom n names acc).lookup x=acc.lookup x
 |[],_,_,_=>rfl
 |(m,k)::r,n,acc,h=>by
  have a:(x,NameKind.cell)∉r:=λz=>h (bz _ z);unfold cellsFrom;split
  .rename_i b
   rw[z4 r _ _ a,fR];split
   .rename_i c
    exact absurd (by rw[kr.mp c,<-kr.mp b];exact bA) h
   .rfl
  .exact z4 r _ _ a
theorem zY{x:Str}:∀(names:List (Str×NameKind)) (n:Nat) (acc:List (Str×Addr)),((∃c,acc.lookup x=some c)\/(x,NameKind.cell)∈names)->∃c,(cellsFrom n names acc).lookup x=some c
 |[],_,_,h=>by
  rcases h with h|h
  .exact h
  .cases h
 |(m,k)::r,n,acc,h=>by
  unfold cellsFrom;split
  .rename_i a
   refine zY r _ _ ?_;rcases h with⟨c,h⟩|h
   .left
    rw[fR];split
    .exact⟨_,rfl⟩
    .exact⟨c,h⟩
   .rcases bx.mp h with e|e
    .cases e
     exact .inl ⟨n,by rw[fR,beq_self_eq_true]⟩
    .exact .inr e
  .rename_i a
   refine zY r _ _ (h.imp id λe=>?_);rcases bx.mp e with e|e
   .cases e
    exact absurd rfl a
   .exact e
theorem BQ{x:Str}{c:Addr}:∀(names:List (Str×NameKind)) (h:Heap) (acc:List (Str×Addr)),(cellsFrom h.objs.size names acc).lookup x=some c->acc.lookup x=some c\/(h.objs.size<=c/\(pushCells h names).IsCell c none)
 |[],h,acc,e=>.inl e
 |(m,k)::r,h,acc,e=>by
  unfold cellsFrom at e;unfold pushCells;split at e
  .rename_i a
   rw[aC a];have ih:=BQ (x:=x) (c:=c) r (h.push {cls:=.type "cell",data:=.cell none}) ((m,h.objs.size)::acc) (by rw[fB];exact e);rw[fB] at ih;rcases ih with ih|ih
   .rw[fR] at ih
    split at ih
    .cases ih
     exact .inr ⟨aJ _,_,pushCells_keeps r _ _ _ (cy _ rfl),rfl⟩
    .exact .inl ih
   .exact .inr ⟨ω,ih.2⟩
  .rename_i a
   rw[ay a];exact BQ r h acc e
theorem YF{M:Model}{A:Around}{E:aR}{s:Shared}{scope:Scope}{globals:Addr}{closure:List (Str×Addr)}{qual:Str}{func:Option Addr}{code:Value}{env:Env}{builtins:Addr}{Q:Env->Shared->Prop}
  (b:Q (newEnv scope s.heap.objs.size globals (cellsFrom (s.heap.objs.size+1) scope.names closure) qual func code (some env) builtins) {s with heap:=pushCells (s.heap.push {cls:=.type "dict",data:=.dict #[]}) scope.names}):
  wpAny M A (newFunctionEnv scope globals closure [] qual func code (some env) builtins) Q E s:=by
 simp only[newFunctionEnv,Option.isSome_some,ly];refine ah (wpAny_alloc ?_);refine ah (wpAny_layCells _ (λname kind cells=>by cases a:kind==NameKind.cell<;>simp[a]) _ _ _ _ ?_);rw[show({s with heap:=s.heap.push {cls:=.type "dict",data:=.dict #[]}}:Shared).heap.objs.size=s.heap.objs.size+1 from fB ..];rw[forIn_nil];exact ah (aF (aF b))
structure f6(X:Cx)(scope:Scope)(aw:Ap):Prop where
 kind:scope.kind= .function
 MT:∀y∈scope.names,y.2= .cell->scope.names.lookup y.1=some .cell
 locs:∀y∈scope.names,y.2= .local->scope.names.lookup y.1=some .local
 sub:∀n∈dh scope.names,n∈aw
 free:∀n∈aw,scope.names.lookup n=some .free
 kinds:(aw.all λn=>X.env.kindOf n==some .cell||X.env.kindOf n==some .free)=true
theorem f6.aw{X:Cx}{scope:Scope}{fr:Ap}(S:f6 X scope fr):∀n∈dh scope.names,X.env.kindOf n=some .cell\/X.env.kindOf n=some .free:=λn a=>by
 have h:=gp.mp S.kinds n (S.sub n a);rcases or_eq_true _ _▸h with h|h
 .exact .inl (sd h)
 .exact .inr (sd h)
theorem wW{x:Str}:∀{names:List (Str×NameKind)},(x,NameKind.free)∈names->x∈dh names
 |(n,k)::r,h=>by
  unfold dh;rcases bx.mp h with e|e
  .injection e with a b
   subst a b;rw[aC (by rfl)];exact bA
  .split
   .exact bz _ (wW e)
   .exact wW e
theorem I9{env:Env}{x:Str}:∀{names:List (Str×NameKind)} {k:NameKind},(names.map λ(n,k)=>if (k==NameKind.free&&env.scope.kind== .function&&env.kindOf n==some .cell) then (n,NameKind.cell) else (n,k)).lookup x=some k->
  ∃k0,names.lookup x=some k0/\(k=k0\/(k0=.free/\k=.cell))
 |[],k,h=>by simp at h
 |(n,k1)::r,k,h=>by
  rw[cJ] at h;by_cases b:(x==n)=true
  .by_cases hc:(k1==NameKind.free&&env.scope.kind== .function&&env.kindOf n==some .cell)=true
   .dsimp only at h
    rw[aC hc,fR,b] at h;have e:k=.cell:=by injection h with h;exact h.symm
    have c:k1=.free:=by
     have:=(gE _ _▸(gE _ _▸hc).1).1;exact sd this
    exact⟨k1,by rw[fR,b],.inr ⟨c,e⟩⟩
   .dsimp only at h
    rw[ay hc,fR,b] at h;injection h with h;exact⟨k1,by rw[fR,b],.inl h.symm⟩
  .have a:(x==n)=false:=by simpa using b
   have h':(List.map (λ(n,k)=>if (k==NameKind.free&&env.scope.kind== .function&&env.kindOf n==some .cell) then (n,NameKind.cell) else (n,k)) r).lookup x=some k:=by
    by_cases hc:(k1==NameKind.free&&env.scope.kind== .function&&env.kindOf n==some .cell)=true
    .dsimp only at h;rw[aC hc,fR,a] at h;exact h
    .dsimp only at h;rw[ay hc,fR,a] at h;exact h
   obtain⟨k0,c,d⟩:=I9 h';exact⟨k0,by rw[fR,a];exact c,d⟩
theorem I8{env:Env}{x:Str}:∀{names:List (Str×NameKind)},names.lookup x=some .free->
  (names.map λ(n,k)=>if (k==NameKind.free&&env.scope.kind== .function&&env.kindOf n==some .cell) then (n,NameKind.cell) else (n,k)).lookup x=some .cell\/
  (names.map λ(n,k)=>if (k==NameKind.free&&env.scope.kind== .function&&env.kindOf n==some .cell) then (n,NameKind.cell) else (n,k)).lookup x=some .free
 |[],h=>by simp at h
 |(n,k1)::r,h=>by
  rw[cJ]
  by_cases b:(x==n)=true
  .rw[fR,b] at h
   injection h with h
   subst h
   by_cases hc:(NameKind.free==NameKind.free&&env.scope.kind== .function&&env.kindOf n==some .cell)=true
   .left;dsimp only;rw[aC hc,fR,b]
   .right;dsimp only;rw[ay hc,fR,b]
  .have a:(x==n)=false:=by simpa using b
   rw[fR,a] at h
   have c:=I8 (env:=env) h
   by_cases hc:(k1==NameKind.free&&env.scope.kind== .function&&env.kindOf n==some .cell)=true
   .dsimp only;rw[aC hc,fR,a];exact c
   .dsimp only;rw[ay hc,fR,a];exact c
structure CP where
 C:Addr
 s:Shared
 H:Hp
 ae:bh
 fp:D1
noncomputable def cG(X:Cx)(NC:Ap)(scope:Scope)(c:CP):Cx where
 prog:=X.prog
 w:=X.w
 K:=X.K
 mg:=X.mg
 base:=X.base
 A:=X.A
 N:=NC
 s₀:=c.s
 H₀:=c.H
 env:=compEnvC scope (cellsFrom (c.C+1) scope.names (eT X.env scope.names [])) c.C X.env
 outer:=X.stack
 stack:=X.stack
 ex:=c.fp
 fn:=λx=>scope.names.lookup x==some .cell
 calm:=true
 pn:=X.pn++c.ae
 xe:=λ_ _=>False
variable{X:Cx}
section
variable{scope:Scope}{aw:Ap}{NC:Ap}{ae:bh}{σ sy:St}{H H':Hp}{s s':Shared}{fp:D1}{C:Addr}
theorem f6.has(S:f6 X scope aw)(ok:X.Ok):∀n∈dh scope.names,∃c,X.env.cells.lookup n=some c:=λn a=>ok.has n (S.aw n a)
theorem f6.sU(S:f6 X scope aw)(ok:X.Ok){x:Str}{c:Addr}(h:(eT X.env scope.names []).lookup x=some c):x∈dh scope.names/\X.env.cells.lookup x=some c:=by
 rw[sW scope.names [] (S.has ok)] at h;by_cases a:x∈dh scope.names
 .rw[aC a] at h;exact⟨a,h⟩
 .rw[ay a] at h;simp at h
theorem f6.cells(S:f6 X scope aw)(ok:X.Ok){x:Str}{c:Addr}{n:Nat}(h:(cellsFrom n scope.names (eT X.env scope.names [])).lookup x=some c):n<=c\/(x∈dh scope.names/\X.env.cells.lookup x=some c):=
 (z0 _ _ _ h).imp And.left (S.sU ok)
theorem f6.pF(S:f6 X scope aw){x:Str}(h:(x,NameKind.cell)∈scope.names)(a:x∈dh scope.names):False:=by
 have h1:=S.MT _ h rfl;rw[S.free x (S.sub x a)] at h1;cases h1
theorem Nc(S:f6 X scope aw)(hc:X.calm=true)(I:Inv X ae σ H s)(d:∀b∈fp,iA X ae H b/\b<s.heap.objs.size)(g:C=s.heap.objs.size):(cG X NC scope ⟨C,s,H,ae,fp⟩).Ok where
 mod:=I.ok.mod
 kind:=S.kind
 glob:=I.ok.glob
 blt:=I.ok.blt
 above:=by show s.heap.objs.size<=C;rw[g];exact aJ _
 inj:=zZ _ _ _ (λx y c h1 h2=>I.ok.inj x y c (S.sU I.ok h1).2 (S.sU I.ok h2).2) λx c h=>by
  obtain⟨v,q⟩:=I.cell x c (S.sU I.ok h).2
  rw[g]
  exact gm q.lt
 has:=λx p=>by
  have l:∃k,(relabel scope X.env).names.lookup x=some k/\(k= .cell\/k= .free):=by
   rcases p with h|h
   .exact⟨_,h,.inl rfl⟩
   .exact⟨_,h,.inr rfl⟩
  obtain⟨k,h,hk⟩:=l
  obtain⟨k0,r,f⟩:=I9 h
  have j:=nP r
  have m:k0= .free\/k0= .cell:=by
   rcases f with f|⟨f,_⟩
   .rcases hk with hk|hk
    .exact .inr (f▸hk)
    .exact .inl (f▸hk)
   .exact .inl f
  refine zY _ _ _ ?_
  rcases m with rfl|rfl
  .have i:=wW j
   obtain⟨c,n⟩:=S.has I.ok x i
   exact .inl ⟨c,by rw[sW scope.names [] (S.has I.ok),aC i];exact n⟩
  .exact .inr j
 oz:=λx c h h2=>by
  have j:(x,NameKind.cell)∈scope.names:=nP (sd h)
  show s.heap.objs.size<=c
  rcases S.cells I.ok h2 with z|⟨z,_⟩
  .rw[g] at z
   exact Nat.le_of_succ_le z
  .exact(S.pF j z).elim
 hd:=λ_=>I.ok.hd hc
 frames:=I.ok.frames
 stk:= .inl rfl
 v8:=λb a=>⟨λz=>by have:=(d b a).2;rw[z] at this;exact absurd (g▸this) (fJ _),λx c h=>by
  rcases S.cells I.ok h with z|⟨_,z⟩
  .exact kg (cY (d b a).2 (Nat.le_of_succ_le (g▸z:s.heap.objs.size+1<=c)))
  .exact(d b a).1.2.2.2.2.1 x c z⟩
 bs:=I.bs
 jU:=dF I.ok.jU I.sz
 pC:=λb o e a=>by
  rcases (d b a).1.2.2.2.1 with z|z
  .exact I.ok.pC b o e z
  .exact absurd (cY (aW e) (dF I.ok.jU z)) (fJ _)
 qH:=λb a z=>by
  rcases bx.mp (I.rB b z) with e|e
  .exact(d b a).1.2.1 e
  .exact(d b a).1.2.2.1 e
 iS:=I.stack
 kJ:=I.Ck
def stC(own:Ap)(ix:B2)(σ:St):St:=own.map (λ_=>none)++ix.map λi=>(σ[i]?).join
theorem Xc{own aw:Ap}{ix:B2}{σ:St}{b:Ap}(c:ix.map (λi=>b[i]?)=aw.map some){j:Nat}{x:Str}{v:V}(h1:(own++aw)[j]?=some x)(h2:(stC own ix σ)[j]?=some (some v)):
  x∈aw/\∃i:Nat,b[i]?=some x/\σ[i]?=some (some v):=by
 have hl:ix.length=aw.length:=by have:=cB List.length c;simpa using this
 unfold stC at h2;by_cases d:j<own.length
 .rw[gW (by simpa using d),bM] at h2
  cases e:own[j]? with
  |none=>rw[e] at h2;simp at h2
  |some o=>rw[e] at h2;simp at h2
 .rw[qf (by simpa using d),bM,aQ] at h2
  rw[qf ω] at h1;have a:(ix.map (λi=>b[i]?))[j - own.length]?=(aw.map some)[j - own.length]? :=by rw[c]
  rw[bM,bM,h1] at a;cases e:ix[j - own.length]? with
  |none=>rw[e] at h2;simp at h2
  |some i=>
   rw[e] at h2 a;simp only[map_some,Option.some.injEq] at h2 a;refine⟨cS h1,i,a,?_⟩;cases q:σ[i]? with
   |none=>rw[q] at h2;simp at h2
   |some o=>rw[q] at h2;simp at h2;rw[h2]
theorem Xd{own aw:Ap}{ix:B2}{σ:St}{a:Ap}(b:ix.map (λi=>a[i]?)=aw.map some):(stC own ix σ).length=(own++aw).length:=by
 have hl:ix.length=aw.length:=by have:=cB List.length b;simpa using this
 unfold stC;simp[hl]
theorem Nb{own:Ap}{ix:B2}{a:Heap}{tk:Nat}(S:f6 X scope aw)(hc:X.calm=true)(I:Inv X ae σ H s)(J:∀b∈fp,iA X ae H b/\b<s.heap.objs.size)(w:C=s.heap.objs.size)
  (F:ix.map (λi=>X.N[i]?)=aw.map some)(y:∃m,a.Ns C m)(k:∀b o,s.heap.get? b=some o->a.get? b=some o)
  (A:∀x c,(cellsFrom (C+1) scope.names (eT X.env scope.names [])).lookup x=some c->(eT X.env scope.names []).lookup x=some c\/(C+1<=c/\a.IsCell c none)):
  Inv (cG X (own++aw) scope ⟨C,s,H,ae,fp⟩) [] (stC own ix σ) H {s with heap:=a,toks:=tk}:=by
 obtain⟨m,K⟩:=y
 refine⟨Nc S hc I J w,rfl,I.bare,Un.kept k,⟨m,K,λj x v h1 h2 U=> ?_⟩,λx c h=> ?_,?_,λx c h=> ?_,λp L=> ?_,I.ar.kept k,Xd F⟩
 .obtain⟨M,i,O,P⟩:=Xc F h1 h2
  have f:=S.free x M
  have g:=wW (nP f)
  have t:=S.aw x g
  obtain⟨m0,_,hl⟩:=I.loc
  have B:qu X.env.scope x:=by rcases t with z|z;exact .inr (.inl z);exact .inr (.inr z)
  obtain⟨u,r,l⟩:=hl i x v O P B
  refine⟨u,r,?_⟩
  rcases l with⟨G,_⟩|⟨_,c,Q,R⟩
  .rcases t with z|z
   .rw[G] at z;cases z
   .rw[G] at z;cases z
  .refine .inr ⟨I8 (env:=X.env) f,c,?_,?_⟩
   .show(cellsFrom _ scope.names (eT X.env scope.names [])).lookup x=some c
    rw[z4 _ _ _ λz=>S.pF z g,sW scope.names [] (S.has I.ok),aC g]
    exact Q
   .obtain⟨o,D,hd⟩:=R
    exact⟨o,k _ _ D,hd⟩
 .rcases A x c h with h|h
  .obtain⟨_,e⟩:=S.sU I.ok h
   obtain⟨v,o,D,hd⟩:=I.cell x c e
   exact⟨v,o,k _ _ D,hd⟩
  .exact⟨none,h.2⟩
 .show H C=none
  rw[w]
  exact I.ar.fresh (aJ _)
 .rcases S.cells I.ok h with z|⟨_,z⟩
  .refine I.ar.fresh ?_
   have z:s.heap.objs.size+1<=c:=w▸z
   omega
  .exact I.gv x c z
 .have E:p∈X.pn++ae:=by
   have:p∈(X.pn++ae)++[]:=L
   rwa [ko] at this
  obtain⟨e,n,ne,T,d⟩:=I.pin p E
  refine⟨k _ _ e,n,?_,λz=> ?_,d⟩
  .show p.1≠C
   rw[w]
   exact bJ (aW e)
  .rcases bx.mp (I.rB p.1 z) with q|q
   .exact ne q
   .exact T q
theorem M_{NC:Ap}(S:f6 X scope aw)(I:Inv X ae σ H s)(d:∀b∈fp,iA X ae H b/\b<s.heap.objs.size)(e:C=s.heap.objs.size){b:Addr}(a:b∈fp)(f:H' b=none):iA (cG X NC scope ⟨C,s,H,ae,fp⟩) [] H' b:=by
 refine⟨f,?_,λz=>?_,.inl a,λx c h=>by
  rcases S.cells I.ok h with z|⟨_,z⟩
  .exact kg (cY (d b a).2 (Nat.le_of_succ_le (e▸z:s.heap.objs.size+1<=c)))
  .exact(d b a).1.2.2.2.2.1 x c z,λp g=>(d b a).1.2.2.2.2.2 p ?_⟩
 .show b≠C
  rw[e];exact bJ (d b a).2
 .rcases bx.mp (I.rB b z) with q|q
  .exact(d b a).1.2.1 q
  .exact(d b a).1.2.2.1 q
 .have:p∈(X.pn++ae)++[]:=g
  rwa [ko] at this
theorem M9{NC:Ap}(I:Inv X ae σ H s)(a:∀b∈fp,iA X ae H b/\b<s.heap.objs.size)(J:Inv (cG X NC scope ⟨C,s,H,ae,fp⟩) [] sy H' s'):Inv X ae σ H' s':=
 I.zX J.os J.base J.ar J.bare λb c=>⟨(a b c).1.2.2.2.1,(a b c).1.2.1,(a b c).1.2.2.2.2.1,(a b c).1.2.2.2.2.2⟩
theorem Na{h':Heap}(I:Inv X ae σ H s)(a:H C=none)(h1:C≠X.env.locals)(h2:X.s₀.heap.objs.size<=C)(d:∀x c,X.env.cells.lookup x=some c->c≠C)(f:∀p∈X.pn++ae,p.1≠C)(g:SameBut C s.heap h'):
 Inv X ae σ H {s with heap:=h'}:=I.turned (t':=s.toks) (λb o h e=>(g.2 b h).trans e) a h1 (.inr h2) d f
end
inductive iB:St->St->Prop
 |nil:iB [] []
 |own {o:Option V} {a b:St}:iB a b->iB (none::a) (o::b)
 |keep {o:Option V} {a b:St}:iB a b->iB (o::a) (o::b)
theorem iB.len:∀{a b:St},iB a b->b.length=a.length
 |_,_,.nil=>rfl
 |_,_,.own h=>cB (·+1) h.len
 |_,_,.keep h=>cB (·+1) h.len
theorem iB.get:∀{a b:St},iB a b->∀(i:Nat) v,a[i]?=some (some v)->b[i]?=some (some v)
 |_,_,.nil,i,v,e=>by simp at e
 |_,_,.own h,0,v,e=>by simp at e
 |_,_,.own h,i+1,v,e=>by
  rw[CZ] at e ⊢;exact h.get i v e
 |_,_,.keep h,0,v,e=>by simpa using e
 |_,_,.keep h,i+1,v,e=>by
  rw[CZ] at e ⊢;exact h.get i v e
theorem iB.refl:∀a:St,iB a a
 |[]=>.nil
 |_::r=>.keep (iB.refl r)
inductive jR(X:Cx):Dx->TT->Prop
 |nil:jR X [] (λ_ H Q=>Q true H)
 |one {c:Expr} {t:TT}:PT X c t->jR X [c] t
theorem jR.run{X:Cx}{ifs:Dx}{t:TT}(h:jR X ifs t){ae:bh}{s:Shared}{σ:St}{H:Hp}{Q:Bool->Hp->Prop}(I:Inv X ae σ H s)(a:t σ H Q):
  wpAny (model X.prog X.w) X.A (forIn ifs true λc r=>if r=true then do let ok <-isTrue c X.env (eval c X.env);pure (ForInStep.yield ok) else pure (ForInStep.yield r)) (TP X ae σ Q) X.xe s:=by
 cases h with
 |nil=>exact wpAny_tests_nil ⟨H,I,a⟩
 |one h=>exact wpAny_tests_one (h ae s σ H Q I a)
def MC(sy:St)(acc:Addr)(g:TG)(tt:TT)(te:TE)(x:V)(ys:Bn)(H:Hp)(N:Bn->Hp->Prop):Prop:=
 g x sy H λσ2 H2=>iB sy σ2/\tt σ2 H2 λb H3=>if b=true then te σ2 H3 λy H4=>H4 acc=some (.lst ys)/\ys.length<sizeLine/\N (ys++[y]) (ax H4 acc (.lst (ys++[y]))) else N ys H3
def zW(J:It)(sy:St)(acc:Addr)(g:TG)(tt:TT)(te:TE)(H:Hp)(Q:VK):Prop:=
 ∃W:Nat->Nat->Bn->Hp->Prop,(∃m,W 0 m [] H)/\∀i m ys H,W i m ys H->H acc=some (.lst ys)/\
  ((J.stop i H/\Q (.ref acc) H)\/(J.go i H/\∃N:Bn->Hp->Prop,(∀ys' H',N ys' H'->∃m',m'<m/\W (i+1) m' ys' H')/\∀x H',J.yJ i H x H'->MC sy acc g tt te x ys H' N))
def Cr(own:Ap)(ix:B2)(wi:TI)(g:CP->TG)(tt:CP->TT)(te:CP->TE):TE:=λσ H Q=>
 wi σ H λJ H1=>∀(c:CP) (acc:Addr),H1 acc=none->zW J (stC own ix σ) acc (g c) (tt c) (te c) (ax H1 acc (.lst [])) Q
section
variable{scope:Scope}{own aw:Ap}{ix:B2}{tg elt iter:Expr}{ifs:Dx}{pos:Pos}{wi:TI}{g:CP->TG}{tt:CP->TT}{te:CP->TE}
theorem M3{J:It}{it acc:Addr}{fp:D1}{E:Nat->Heap->Prop}{c:CP}{σ:St}{H:Hp}{s:Shared}{Q:VK}{R:Result->Shared->Prop}
  (hfp:c.fp=fp)(T:Turn X.prog X.w X.K tg J fp it E)(hg:PG (cG X (own++aw) scope c) tg (g c))(ht:jR (cG X (own++aw) scope c) ifs (tt c))(he:PE (cG X (own++aw) scope c) elt (te c))
  (j:∀b∈fp,∀H':Hp,H' b=none->iA (cG X (own++aw) scope c) [] H' b)
  (I:Inv (cG X (own++aw) scope c) [] (stC own ix σ) H s)(st:E 0 s.heap)(fr:∀b∈fp,H b=none)(h:zW J (stC own ix σ) acc (g c) (tt c) (te c) H Q)
  (hR:∀s' H',Inv (cG X (own++aw) scope c) [] (stC own ix σ) H' s'->Q (.ref acc) H'->R (.ok .next) s'):
  codeAny (model X.prog X.w) X.A (.compLoop (.ListComp elt [⟨tg,iter,ifs,0⟩] scope pos) 0 (.ref it) (.ref acc) (cG X (own++aw) scope c).env) R s:=by
 obtain⟨W,⟨m0,w0⟩,turn⟩:=h
 refine codeAny_loop rfl (λn s'=>∃i ys H',Inv (cG X (own++aw) scope c) [] (stC own ix σ) H' s'/\E i s'.heap/\(∀b∈fp,H' b=none)/\W i n ys H') (λn L hI=> ?_) m0 ⟨0,[],H,I,st,fr,w0⟩
 obtain⟨i,ys,H1,I1,p,v,w1⟩:=hI
 show wpAny _ X.A ((compTurn (.ListComp elt [⟨tg,iter,ifs,0⟩] scope pos) 0 (.ref it) (.ref acc) (cG X (own++aw) scope c).env).onRaise (λx=>do noteFrame x (cG X (own++aw) scope c).env;theTreesLotGoes x)) _ _ L
 have k:∀{α:Type} {t:Sem α} {P:α->Shared->Prop} {s:Shared},wpAny (model X.prog X.w) X.A t P (λ_ _=>False) s->wpAny (model X.prog X.w) X.A t P (notedBy (model X.prog X.w) X.A (cG X (own++aw) scope c).env λe s'=>R (.error e) s') s:=
  λh=>jK h (λ_ _ q=>q) λ_ _ z=>z.elim
 refine wpAny_noted ?_
 rw[compTurn_list]
 obtain⟨ha,hw⟩:=turn i n ys H1 w1
 rcases hw with⟨stop,q⟩|⟨go,N,hN,step⟩
 .refine ah (yY (ah (k (aN (T.done (cG X (own++aw) scope c) rfl rfl rfl rfl i [] L _ H1 (λ_ _=>False) I1 (λb f=>j b f H1 (v b f)) p stop) λr s2 ⟨M,I2⟩=> ?_))))
  subst M
  exact aF (hR s2 H1 I2 q)
 .refine ah (yY (ah (k (aN (T.item (cG X (own++aw) scope c) rfl rfl rfl rfl i [] L _ H1 (λ_ _=>False) I1 (λb f=>j b f H1 (v b f)) p go) λr s2 ⟨u,M,h2⟩=> ?_))))
  subst M
  refine ah (k (aN h2 λ_ s3 ⟨x,O,I3,r3,y3,l,S⟩=> ?_))
  have U:=I3.pinned (λb f=>j b f O (S b f)) (T.obj _ _ l)
  refine ah (k (aN (hg _ s3 _ O x u _ U r3 (step x O y3)) λ_ s4 ⟨YN,H4,I4,ks,q4⟩=> ?_))
  refine ah (k (aN (ht.run I4 q4) λok s5 ⟨H5,V,F⟩=> ?_))
  have a:∀{B:Shared} {C:St} {m:Hp},Inv (cG X (own++aw) scope c) ([]++uB fp s3.heap) C m B->E (i+1) B.heap/\∀b∈fp,m b=none:=λ {B C m} D=>
   ⟨T.keep _ _ _ l λb f o e=>(D.pin (b,o) (iy _ (iy _ (wX f e)))).1,λb f=>by
    obtain⟨o,e,d⟩:=T.obj _ _ l b f
    exact(D.pin (b,o) (iy _ (iy _ (wX f e)))).2.1⟩
  cases ok with
  |false=>
   rw[ay δ] at F
   obtain⟨Y,Z,w5⟩:=hN _ _ F
   obtain⟨k1,k2⟩:=a V
   exact aF ⟨rfl,Y,Z,i+1,ys,H5,(V.uV).weak ks.len.symm ks.get,k1,k2,w5⟩
  |true=>
   rw[aC rfl] at F
   refine ah (ah (k (aN (he _ s5 _ H5 _ V F) λy B ⟨G,m,D,r6,a6,l6,q6⟩=> ?_)))
   obtain⟨Y,Z,w6⟩:=hN _ _ q6
   obtain⟨k1,k2⟩:=a D
   refine ah (k (aN (nv (X:=cG X (own++aw) scope c) _ B _ m (.ref acc) [G] (.ref acc) [y] (λ_ H7=>H7=ax m acc (.lst (ys++[G]))) D rfl (.cons r6 .nil) ⟨acc,ys,G,rfl,rfl,a6,l6,rfl⟩) λ_ s7 ⟨_,H7,I7,_,e7⟩=> ?_))
   subst e7
   obtain⟨k1,k2⟩:=a I7
   exact aF (aF ⟨rfl,Y,Z,i+1,ys++[G],_,(I7.uV).weak ks.len.symm ks.get,k1,k2,w6⟩)
structure ze(X:Cx)(ae:bh)(C:Addr)(H:Hp):Prop where
 no:H C=none
 loc:C≠X.env.locals
 old:X.s₀.heap.objs.size<=C
 iP:∀x c,X.env.cells.lookup x=some c->c≠C
 pin:∀p∈X.pn++ae,p.1≠C
theorem ze.inv{ae:bh}{σ:St}{H:Hp}{s:Shared}{C:Addr}{h':Heap}(G:ze X ae C H)(I:Inv X ae σ H s)(a:SameBut C s.heap h'):Inv X ae σ H {s with heap:=h'}:=
 Na I G.no G.loc G.old G.iP G.pin a
theorem EI{ae:bh}{σ:St}{H:Hp}{s:Shared}{Q:VK}{D:Value->Addr->Result->Shared->Prop}{E:aR}{J:It}{it:Addr}{fp:D1}{F:Nat->Heap->Prop}
  (S:f6 X scope aw)(hc:X.calm=true)(W:ix.map (λi=>X.N[i]?)=aw.map some)
  (Y:∀c,PG (cG X (own++aw) scope c) tg (g c))(Z:∀c,jR (cG X (own++aw) scope c) ifs (tt c))(he:∀c,PE (cG X (own++aw) scope c) elt (te c))
  (I:Inv X ae σ H s)(T:Turn X.prog X.w X.K tg J fp it F)(st:F 0 s.heap)(R:∀b∈fp,iA X ae H b)
  (h:∀(c:CP) (acc:Addr),H acc=none->zW J (stC own ix σ) acc (g c) (tt c) (te c) (ax H acc (.lst [])) Q)
  (G:∀(acc C:Addr) s' H' m,Inv X ae σ H' s'->s'.heap.Ns C m->ze X ae C H'->Q (.ref acc) H'->D (.ref acc) C (.ok .next) s'):
  wpAny (model X.prog X.w) X.A (newList []) (λacc u=>wpAny (model X.prog X.w) X.A (newFunctionEnv scope X.env.globals (eT X.env scope.names []) [] X.env.qual none .none (some X.env)) (λl y=>
   codeAny (model X.prog X.w) X.A (.compStart (.ListComp elt [⟨tg,iter,ifs,0⟩] scope pos) 0 (.ref it) acc {l with scope:=relabel scope X.env}) (D acc l.locals) y) E u) E s:=by
 refine gD (YF ?_)
 dsimp only
 have L:H s.heap.objs.size=none:=I.ar.fresh (aJ _)
 have n:Inv X ae σ (ax H s.heap.objs.size (.lst [])) {s with heap:=s.heap.push {cls:= .type "list",data:= .seq ([]:BM).toArray}}:=I.Hu (its:=[]) (t':=s.toks) .nil (cA _)
 generalize r:({s with heap:=s.heap.push {cls:= .type "list",data:= .seq ([]:BM).toArray}}:Shared)=d at n
 have U:d.heap=s.heap.push {cls:= .type "list",data:= .seq ([]:BM).toArray}:=by rw[<-r]
 have V:∀b∈fp,b<s.heap.objs.size:=λb j=>by
  obtain⟨o,e,_⟩:=T.obj _ _ st b j
  exact aW e
 have sz:d.heap.objs.size=s.heap.objs.size+1:=by rw[U,fB]
 have k:∀b∈fp,iA X ae (ax H s.heap.objs.size (.lst [])) b/\b<d.heap.objs.size:=λb j=>
  ⟨⟨by rw[aX (bJ (V b j))];exact(R b j).1,(R b j).2⟩,by rw[sz];exact gm (V b j)⟩
 obtain⟨a,B⟩:∃a,a=pushCells (d.heap.push {cls:= .type "dict",data:= .dict #[]}) scope.names:=⟨_,rfl⟩
 have kp:∀b o,d.heap.get? b=some o->a.get? b=some o:=λb o e=>by
  rw[B]
  exact pushCells_keeps _ _ b o (bu _ e)
 have M:∃m,a.Ns d.heap.objs.size m:=by
  rw[B]
  exact⟨_,(Heap.Ns.new d.heap (.type "dict")).keeps (pushCells_keeps _ _)⟩
 have cl:∀x c,(cellsFrom (d.heap.objs.size+1) scope.names (eT X.env scope.names [])).lookup x=some c->(eT X.env scope.names []).lookup x=some c\/(d.heap.objs.size+1<=c/\a.IsCell c none):=λx c e=>by
  have:=BQ (x:=x) (c:=c) scope.names (d.heap.push {cls:= .type "dict",data:= .dict #[]}) (eT X.env scope.names []) (by rw[fB];exact e)
  rw[fB,<-B] at this
  exact this
 have J0:Inv (cG X (own++aw) scope ⟨d.heap.objs.size,d,ax H s.heap.objs.size (.lst []),ae,fp⟩) [] (stC own ix σ) (ax H s.heap.objs.size (.lst [])) {d with heap:=a}:=
  Nb (tk:=d.toks) S hc n k rfl W M kp cl
 have O:∀b∈fp,∀H':Hp,H' b=none->iA (cG X (own++aw) scope ⟨d.heap.objs.size,d,ax H s.heap.objs.size (.lst []),ae,fp⟩) [] H' b:=λb j H' hn=>M_ S n k rfl j hn
 have t:F 0 a:=T.keep _ _ _ st λb j o e=>kp b o (by rw[U];exact bu _ e)
 have loop:codeAny (model X.prog X.w) X.A (.compLoop (.ListComp elt [⟨tg,iter,ifs,0⟩] scope pos) 0 (.ref it) (.ref s.heap.objs.size) (cG X (own++aw) scope ⟨d.heap.objs.size,d,ax H s.heap.objs.size (.lst []),ae,fp⟩).env)
   (D (.ref s.heap.objs.size) d.heap.objs.size) {d with heap:=a}:=by
  refine M3 rfl T (Y _) (Z _) (he _) O J0 t (λb j=>(k b j).1.1) (h _ _ L) λs' H' P q=> ?_
  obtain⟨m,hm,_⟩:=P.loc
  refine G _ _ s' H' m (M9 n k P) hm ⟨P.free,kg n.lt,n.sz,λx c e z=> ?_,λp hp z=> ?_⟩ q
  .obtain⟨v,q⟩:=n.cell x c e
   exact absurd (cY q.lt (by rw[z];exact aJ _)) (fJ _)
  .exact absurd (cY (aW (n.pin p hp).1) (by rw[z];exact aJ _)) (fJ _)
 have f:=loop
 rw[B,<-r] at f
 exact codeAny_compStart_list f (T.self _ 0 _ _ _ (by rw[B,<-r] at t;exact t) f)
theorem Ur(hi:PI X tg iter wi)
  (d:∀c,PG (cG X (own++aw) scope c) tg (g c))(f:∀c,jR (cG X (own++aw) scope c) ifs (tt c))(j:∀c,PE (cG X (own++aw) scope c) elt (te c))(S:f6 X scope aw:=by exact⟨rfl,η,η,η,η,rfl⟩)(hc:X.calm=true:=by rfl)(k:ix.map (λi=>X.N[i]?)=aw.map some:=by rfl)(l:∀x,foldedSetIterable iter X.env x=pure x:=by intro _;rfl):
  PE X (.ListComp elt [⟨tg,iter,ifs,0⟩] scope pos) (Cr own ix wi g tt te):=by
 intro ae s σ H Q I h;rw[eval_ListComp];refine wpAny_comprehension_free (use:=none) rfl l (EA (S.has I.ok)) S.kind S.locs (aN (hi ae s σ H _ I h) λv u h1=>aN h1 λn w h2=>?_);obtain⟨it,fp,y,J,H2,e,o,T,a,f2,p⟩:=h2;subst e;refine EI S hc k d f j o T a f2 p λacc C s' H' m r t G q=>?_;exact⟨m,t,λh' b=>⟨.ref acc,H',G.inv r b,rfl,q⟩⟩
theorem Ir{i:Nat}{x:Str}{pos' spos:Pos}(b:X.N.Nodup)(d:X.N[i]? =some x)(o:Loc X.env.scope x)(hi:PI X tg iter wi)
  (p:∀c,PG (cG X (own++aw) scope c) tg (g c))(r:∀c,jR (cG X (own++aw) scope c) ifs (tt c))(t:∀c,PE (cG X (own++aw) scope c) elt (te c))(S:f6 X scope aw:=by exact⟨rfl,η,η,η,η,rfl⟩)(hc:X.calm=true:=by rfl)(u:ix.map (λi=>X.N[i]?)=aw.map some:=by rfl)(w:∀x,foldedSetIterable iter X.env x=pure x:=by intro _;rfl)
  (f:swapsWith (.ListComp elt [⟨tg,iter,ifs,0⟩] scope pos) (some (.Name x pos')) spos.line X.env=pure true:=by rfl)(y:X.fn x=true\/X.env.scope.names.lookup x=some .local:=by first|exact .inl rfl|exact .inr rfl|assumption):
  PS X (.Assign [.Name x pos'] (.ListComp elt [⟨tg,iter,ifs,0⟩] scope pos) spos) (yv (Cr own ix wi g tt te) (qL i)):=by
 intro ae s σ H D I h
 rw[exec_Assign_Name_used _ _ _ _ f]
 refine ah (yY (ah ?_))
 show wpAny _ X.A (do let _ <-comprehension (.ListComp elt [⟨tg,iter,ifs,0⟩] scope pos) scope X.env _ (newList []) false (eval iter X.env) (some (assign (.Name x pos') X.env))) _ _ s
 refine ah (jK (wpAny_comprehension_free (use:=some (assign (.Name x pos') X.env)) (Q:=λ_ s'=>SP X ae D .next s') rfl w (EA (S.has I.ok)) S.kind S.locs
  (aN (hi ae s σ H _ I h) λv R h1=>aN h1 λz B h2=> ?_)) (λ_ s' E=>aF (aF E)) λ_ _ e=>e)
 obtain⟨it,fp,U,J,H2,e,F,T,j,f2,K⟩:=h2
 subst e
 refine EI S hc u p r t F T j f2 K λacc C s' H' m L M G q=> ?_
 show wpAny _ X.A (assign (.Name x pos') X.env (.ref acc)) _ _ _
 refine wpAny_assign_Name (KS L b d o (v:= .ref acc) rfl (λB k ch=> ?_) y)
 obtain⟨a,O,P⟩:=ch
 have l:C≠a:=by
  rcases P with e|e
  .rw[e];exact G.loc
  .exact(G.iP _ _ e).symm
 exact⟨m,M.sameBut O l,λh' n=>⟨_,H',G.inv k n,q⟩⟩
end
theorem zV:∀{bs:Fn} {its:BM},Vals (bs.map V.bl) its->LSm.BoolsAre its bs
 |[],_,.nil=>.nil
 |b::r,_,.cons q t=>by
  cases q;exact .cons b (zV t)
theorem oA(hc:X.calm=true):eG X (.builtin "all") (λxs H Q=>∃(p:Addr) (bs:Fn),xs=[.ref p]/\aU X.K H p (bs.map V.bl)/\Q (.bl (bs.all id)) H):=by
 intro ae s σ H xs m Q I r h;obtain⟨p,bs,rfl,f,q⟩:=h;obtain⟨u,rfl,g⟩:=vals1 r;cases g;obtain⟨vs,j,pl,hz⟩:=I.list f;have c:=zV j;have hl:=pl.isList;have a:p<s.heap.objs.size:=by obtain⟨_,e,_⟩:=hl;exact aW e
 refine call_all_walk (pW hl ?_);refine⟨s.heap.objs.size,[s.heap.objs.size,p],[s.heap.objs.size],vs.toArray.size,_,_,λi=>(bs[i]?).getD true,rfl,Walks.list (A:=X.A.in1) (I.ok.hd hc) _ p (bJ a) vs.toArray,
  ⟨⟨_,cy _ rfl,rfl,rfl⟩,hl.push _⟩,λi v s' n o k d=>?_,λh' tk l=>?_⟩
 .obtain⟨b,e,rfl⟩:=c.get i v (by simpa using k)
  simp only[e,getD_some] at d;exact nN d
 .have e:((range vs.toArray.size).all λi=>(bs[i]?).getD true)=bs.all id:=by
   rw[bT,c.length];exact LSm.range_all bs
  rw[e];exact⟨.bl _,H,I.kept (h':=h') (t':=tk) (LSm.kept_iter l),rfl,q⟩
theorem TQ:bI X (binaryOp .FloorDiv) (rI (λ_ j=>0<j/\j.natAbs.log2<9000) λi j=>.int (i/j)):=BL λi j _ _ _ _ _ hc q=>by
 have h1:(0:Int)<j:=hc.1;exact floordiv_int ω (by rw[Int.fdiv_eq_ediv_of_nonneg i ω];exact q) (.inl (PyProof.noPylong_of_log2 hc.2))
noncomputable def zu(y:Str):It:=⟨λi _=>i<y.cps.size,λi H x H'=>H'=H/\∃c,y.cps[i]?=some c/\x=.str ⟨#[c]⟩,λi _=>i=y.cps.size⟩
theorem Yn{P:Program}{w:World}{K:Frag}{nm:Str}{px:Pos}{ty:String}{y:Str}{t:Tok}(it:Addr)
  (W:∀A:Around,A.handled=none->Walks P w A it [it] [it] y.cps.size (SignAt y) (λi h=>h.IsStrIter it ty y t i))
  (D:∀(A:Around) (i:Nat) (s:Shared) (Q:aR) (E:aR),s.heap.IsStrIter it ty y t i->Q (.ref it) s->wpAny (model P w) A (pyIter (.ref it)) Q E s):Turn P w K (.Name nm px) (zu y) [it] it (λi h=>h.IsStrIter it ty y t i) where
 mem:=θ
 obj:=λi h st b a=>by
  have e:b=it:=by simpa using a
  subst e
  obtain⟨o,e,c,d⟩:=st
  exact⟨o,e,λv z=>by rw[d] at z;cases z⟩
 keep:=λi h h' st k=>let ⟨o,F,r⟩:=st;⟨o,k it θ o F,r⟩
 item:=by
  intro X f j l hc i ae s σ H E I g st m
  subst f j l
  obtain⟨f0,f1,f2,n,f4,p⟩:=g it θ
  refine(W X.A (I.ok.hd hc)).item i s _ _ m st λv h' tk f q x=> ?_
  obtain⟨c,u,B,rfl⟩:=f
  have G:Inv X ae σ H {s with heap:=h',toks:=tk}:=I.turned (λb o a e=>x b o (by simpa using a) e) f0 f1 n f4 p
  exact⟨_,rfl,aF ⟨.str ⟨#[c]⟩,H,G,⟨u,rfl⟩,⟨rfl,c,B,rfl⟩,q,λb a=>(g b a).1⟩⟩
 done:=by
  intro X f j l hc i ae s σ H E I g st m
  subst f j l
  obtain⟨f0,f1,f2,n,f4,p⟩:=g it θ
  have C:i=y.cps.size:=m
  subst C
  exact(W X.A (I.ok.hd hc)).done s _ _ st λh' tk x=>⟨rfl,I.turned (λb o a e=>x b o (by simpa using a) e) f0 f1 n f4 p⟩
 self:=λA i s Q E st h=>D A i s Q E st h
def Q5(tl:TE):TI:=λσ H R=>tl σ H λx H1=>∃y,x=.str y/\R (zu y) H1
theorem UO{l:Expr}{tl:TE}{nm:Str}{px:Pos}(hl:PE X l tl):PI X (.Name nm px) l (Q5 tl):=by
 intro ae s σ H R I h;refine aN (hl ae s σ H _ I h) λv a ⟨x,H1,c,j,k⟩=>?_;obtain⟨y,e,q⟩:=k;subst e;obtain⟨t,rfl⟩:=j;have fin:∀(ty:String) (o:Obj) (W:∀A:Around,A.handled=none->Walks X.prog X.w A a.heap.objs.size [a.heap.objs.size] [a.heap.objs.size] y.cps.size (SignAt y) (λi h=>h.IsStrIter a.heap.objs.size ty y t i))
   (f:∀(A:Around) (i:Nat) (s:Shared) (Q:aR) (E:aR),s.heap.IsStrIter a.heap.objs.size ty y t i->Q (.ref a.heap.objs.size) s->wpAny (model X.prog X.w) A (pyIter (.ref a.heap.objs.size)) Q E s),
   (a.heap.push o).IsStrIter a.heap.objs.size ty y t 0->zz X ae σ (.Name nm px) R (.ref a.heap.objs.size) {a with heap:=a.heap.push o}:=λty o W f st=>by
  refine⟨a.heap.objs.size,[a.heap.objs.size],_,_,H1,rfl,c.kept (t':=a.toks) λb o e=>bu _ e,Yn _ W f,st,λb m=>?_,q⟩;have e:b=a.heap.objs.size:=by simpa using m
  subst e;exact c.ng (aJ _) (c.ar.fresh (aJ _))
 cases g:y.cps.all (·<128)
 .exact wpAny_pyIter_wide g (fin _ _ (λA' d=>Walks.strWide d _ y t) (λ_ _ _ _ _ st h=>wpAny_pyIter_striter_wide st h) ⟨_,cy _ rfl,rfl,rfl⟩)
 .exact wpAny_pyIter_ascii g (fin _ _ (λA' d=>Walks.strAscii d _ y t) (λ_ _ _ _ _ st h=>wpAny_pyIter_striter_ascii st h) ⟨_,cy _ rfl,rfl,rfl⟩)
mutual
inductive Dp(K:Frag)(H:Hp):V->PyData->Prop
 |aG:Dp K H .aG .none
 |bl (b:Bool):Dp K H (.bl b) (.bool b)
 |int (i:Int):Dp K H (.int i) (.int i)
 |str (x:Str):Dp K H (.str x) (.str x)
 |lst {a:Addr} {xs:Bn} {ds:Fm}:aU K H a xs->gY K H xs ds->Dp K H (.ref a) (.list ds)
 |tup {a:Addr} {xs:Bn} {ds:Fm}:bL K H a xs->gY K H xs ds->Dp K H (.ref a) (.tuple ds)
inductive gY(K:Frag)(H:Hp):Bn->Fm->Prop
 |nil:gY K H [] []
 |cons {v:V} {vs:Bn} {d:PyData} {ds:Fm}:Dp K H v d->gY K H vs ds->gY K H (v::vs) (d::ds)
end
section
variable{ae:bh}{σ:St}{H H':Hp}{s:Shared}{K:Frag}
mutual
theorem Dp.reads(I:Inv X ae σ H s):∀(d:PyData) (v:V) (u:Value),Dp X.K H v d->RelV v u->∃as,Reads s.heap u d as
 |.none,_,_,h,r=>by cases h;cases r;exact⟨_,.none⟩
 |.bool b,_,_,h,r=>by cases h;cases r;exact⟨_,.bool b⟩
 |.int i,_,_,h,r=>by cases h;obtain⟨t,rfl⟩:=r;exact⟨_,.int i t⟩
 |.str x,_,_,h,r=>by cases h;obtain⟨t,rfl⟩:=r;exact⟨_,.str x t⟩
 |.list ds,_,_,h,r=>by
  cases h with
  |lst a c=>
   cases r;obtain⟨its,f,pl,hz⟩:=I.list a;obtain⟨as,ra⟩:=gY.reads I ds _ _ c f;obtain⟨o,e,hc,n,hd⟩:=pl.isList;exact⟨_,.list e hc hd (by simpa using ra)⟩
 |.tuple ds,_,_,h,r=>by
  cases h with
  |tup a c=>
   cases r;obtain⟨its,f,pl,hz⟩:=I.tuple a;obtain⟨as,ra⟩:=gY.reads I ds _ _ c f;obtain⟨o,e,hc,n,hd⟩:=pl;exact⟨_,.tuple e hc hd (by simpa using ra)⟩
 |.dict _,_,_,h,_=>nomatch h
theorem gY.reads(I:Inv X ae σ H s):∀(ds:Fm) (vs:Bn) (a:BM),gY X.K H vs ds->Vals vs a->∃as,ReadsAll s.heap a ds as
 |[],_,_,h,r=>by cases h;cases r;exact⟨_,.nil⟩
 |d::ds,_,_,h,r=>by
  cases h with
  |cons h1 h2=>
   cases r with
   |cons b c=>
    obtain⟨as,a1⟩:=Dp.reads I d _ _ h1 b;obtain⟨bs,a2⟩:=gY.reads I ds _ _ h2 c;exact⟨_,.cons a1 a2⟩
end
noncomputable def B5(K:Frag):R2:=λx y H Q=>∃d e,Dp K H x d/\Dp K H y e/\d.canLay0=true/\e.canLay0=true/\min d.depth e.depth<=64/\Q (.bl (PyData.eqv d e)) H
noncomputable def B8(K:Frag):R2:=λx y H Q=>∃d e,Dp K H x d/\Dp K H y e/\d.canLay0=true/\e.canLay0=true/\min d.depth e.depth<=64/\Q (.bl (!PyData.eqv d e)) H
theorem TN(i:X.A.units+64<cLine):bI X (compareOp .Eq) (B5 X.K):=by
 intro ae s σ H x y v u Q I a b h;obtain⟨d,e,h1,h2,c,f,hd,q⟩:=h;obtain⟨as,ra⟩:=Dp.reads I d x v h1 a;obtain⟨bs,g⟩:=Dp.reads I e y u h2 b;exact SeqAt.compareEq_reads ra g c f ω ⟨.bl _,H,I,rfl,q⟩
theorem T6(i:X.A.units+64<cLine):bI X (compareOp .NotEq) (B8 X.K):=by
 intro ae s σ H x y v u Q I a b h;obtain⟨d,e,h1,h2,c,f,hd,q⟩:=h;obtain⟨as,ra⟩:=Dp.reads I d x v h1 a;obtain⟨bs,g⟩:=Dp.reads I e y u h2 b;exact SeqAt.compareNe_reads ra g c f ω ⟨.bl _,H,I,rfl,q⟩
theorem jb.new{p:Addr}(h:H p=none)(o:HO):jb H (ax H p o):=λb u q=>by rw[aX (c_ q h)];exact q
theorem gY.ints:∀(xs:DD),gY K H (xs.map V.int) (xs.map PyData.int)
 |[]=>.nil
 |x::r=>.cons (.int x) (gY.ints r)
end
section
variable{P:Program}{w:World}{K:Frag}{mg:aA}{base:Heap}
def TopD(K:Frag)(mg:aA)(x:Str)(st:Stmt)(ps:Ap):Prop:=∃f fd,lO K x x st f fd/\Binds K fd ps []/\mg x=some (.ref f)
end
section
variable{k:Nat}{x:Str}{ps:Ap}{sp:Sp}{e:Expr}{es:Dx}{t:TA}{p pos:Pos}
theorem TX:bI X (compareOp .LtE) (λx y H Q=>∃i j,x=.str i/\y=.str j/\Q (.bl (!decide (j.cps.toList<i.cps.toList))) H):=by
 intro ae s σ H x y v u Q I a b h;obtain⟨i,j,rfl,rfl,q⟩:=h;obtain⟨t,rfl⟩:=a;obtain⟨t',rfl⟩:=b;exact PySem.P.le_str (c8 I q rfl)
end
noncomputable def zp(K:Frag)(a:Addr):It:=
 ⟨λi H=>∃xs x,aU K H a xs/\xs[i]?=some x,λi H x H'=>∃p y,H p=none/\x=.ref p/\H'=ax H p (.tup [.int (i:Nat),y])/\∀xs,aU K H a xs->xs[i]?=some y,λi H=>∃xs,aU K H a xs/\xs.length<=i⟩
theorem Yh{P:Program}{w:World}{K:Frag}{elts:Dx}{k:Nat}{pos:Pos}(a e it:Addr)(B:e≠it):
  Turn P w K (.Tuple elts k pos) (zp K a) [e,it] e (λi h=>(∃old,IsEnum h e it i old)/\h.IsListIter it a i) where
 mem:=θ
 obj:=λi h st b f=>by
  have j:b=e\/b=it:=by simpa using f
  obtain⟨⟨old,t⟩,o,e1,c,d⟩:=st
  rcases j with z|z
  .subst z
   exact⟨_,t,λv z=>nomatch (show Data.fields _=Data.cell v from z)⟩
  .subst z
   exact⟨o,e1,λv z=>by rw[d] at z;cases z⟩
 keep:=λi h h' st kp=>by
  obtain⟨⟨old,t⟩,st⟩:=st
  exact⟨⟨old,kp e θ _ t⟩,st.at λo q=>kp it θ o q⟩
 item:=by
  intro X N O Q hc i ae s σ H E I G st R
  subst N O Q
  obtain⟨xs,x,J,S⟩:=R
  obtain⟨its,T,p,hz⟩:=I.list J
  obtain⟨u,hu,ru⟩:=T.get S
  obtain⟨f0,f1,f2,f3,f4,f5⟩:=G e θ
  obtain⟨L,M,g2,U,V,W⟩:=G it θ
  obtain⟨⟨old,t⟩,y⟩:=st
  refine wpAny_pyNext_enum_item t y p.isList (x:=u) (by simpa using hu) B λh' ho C hT hsz hk=> ?_
  refine⟨_,rfl,wpAny_letOwnedTupleGo_enum ho λh'' D l=> ?_⟩
  have A:H s.heap.objs.size=none:=I.ar.fresh (aJ _)
  have elt:e<s.heap.objs.size:=aW t
  have Y:it<s.heap.objs.size:=by obtain⟨_,q,_⟩:=y;exact aW q
  have kp:∀b o,b≠e->b≠it->s.heap.get? b=some o->h''.get? b=some o:=λb o n1 n2 q=>(l.2 b n1).trans (hk b o n1 n2 q)
  have Z:h''.get? s.heap.objs.size=some {cls:= .type "tuple",data:= .seq #[.int i s.toks,u]}:=(l.2 _ (kg elt)).trans hT
  have nb:∀b,b∉[e,it]->b≠e/\b≠it:=λb f=>⟨λz=>f (by simp[z]),λz=>f (by simp[z])⟩
  have nT:∀b o,s.heap.get? b=some o->b≠s.heap.objs.size:=λb o q=>bJ (aW q)
  have I1:Inv X ae σ (ax H s.heap.objs.size (.tup [.int (i:Nat),x])) {s with heap:=h'',toks:=s.toks+1}:=by
   refine I.step (g':=s.gens) (d':=s.drawn) (ch:=[e,it]) (λb f=> ?_) (λb o _ _ f q _=>kp b o (nb b f).1 (nb b f).2 q) (λb o _ _ f q _=>⟨o.slots,kp b o (nb b f).1 (nb b f).2 q⟩)
    (λb o f q n=>by rw[aX (nT b o q)];exact n) (λb o f q=>⟨o,kp b o (nb b f).1 (nb b f).2 q⟩) (λb ys q=>by rw[aX (c_ q A)];exact q) (λb o v q=>by rw[aX (c_ q A)];exact q)
    (λb ps q=>⟨#[],by rw[aX (c_ q A),q];simp⟩) (λm hm=> ?_) (λb v q=> ?_) I.bare
   .have j:b=e\/b=it:=by simpa using f
    rcases j with z|z
    .subst z;exact⟨f3,f1,f4,f5⟩
    .subst z;exact⟨U,M,V,W⟩
   .obtain⟨o,es,ep,q,r⟩:=hm
    exact⟨o,es,ep,kp _ o (Ne.symm f1) (Ne.symm M) q,r⟩
   .by_cases f:b=s.heap.objs.size
    .subst f
     rw[d9] at q
     cases q
     exact⟨by show 2<=sizeLine;decide,[.int i s.toks,u],.cons ⟨_,rfl⟩ (.cons ru .nil),_,Z⟩
    .rw[aX f] at q
     have ne1:∀c v',H c=some v'->c≠e/\c≠it:=λc v' g=>⟨λz=>(by rw[z,f0] at g;cases g),λz=>(by rw[z,L] at g;cases g)⟩
     refine(I.ar b v q).stay (λc w' F g=>kp c w' ?_ ?_ g) (λc g=>by rw[aX (c_ g A)];exact g) λc ys g=>by rw[aX (c_ g A)];exact g
     .rcases F with z|z
      .rw[z];exact(ne1 b v q).1
      .exact(ne1 c _ z).1
     .rcases F with z|z
      .rw[z];exact(ne1 b v q).2
      .exact(ne1 c _ z).2
  refine⟨.ref s.heap.objs.size,_,I1,rfl,⟨s.heap.objs.size,x,A,rfl,rfl,λys hy=>by rw[I.Bs hy J];exact S⟩,⟨⟨u,by simpa using D⟩,C.at λo q=>(l.2 it B.symm).trans q⟩,λb f=> ?_⟩
  have j:b=e\/b=it:=by simpa using f
  rcases j with z|z
  .subst z;rw[aX (bJ elt)];exact f0
  .subst z;rw[aX (bJ Y)];exact L
 done:=by
  intro X N O Q hc i ae s σ H E I G st R
  subst N O Q
  obtain⟨xs,J,S⟩:=R
  obtain⟨its,T,p,hz⟩:=I.list J
  obtain⟨L,M,g2,U,V,W⟩:=G it θ
  obtain⟨⟨old,t⟩,y⟩:=st
  have hl:=T.length
  exact wpAny_pyNext_enum_end (I.ok.hd hc) t y p.isList (by simp;omega) λh' eb=>⟨rfl,I.turned (t':=s.toks) (λb o f e=>eb b o f e) L M U V W⟩
 self:=λ_ _ _ _ _ st h=>by
  obtain⟨⟨old,t⟩,_⟩:=st
  exact wpAny_pyIter_enum t h
def QY(K:Frag)(ta:TA):TI:=λσ H R=>ta σ H λvs H1=>∃a xs,vs=[.ref a]/\aU K H1 a xs/\R (zp K a) H1
theorem UJ{l:Expr}{ta:TA}{elts:Dx}{k:Nat}{tpos p pos:Pos}(j:Gl X "enumerate")(m:X.mg "enumerate"=none)(n:PA X [l] ta)(f:bootBuiltins "enumerate"=some (.type "enumerate"))(o:starEach [l] X.env=[(false,eval l X.env)]:=by rfl):
  PI X (.Tuple elts k tpos) (.Call (.Name "enumerate" p) [l] [] pos) (QY X.K ta):=by
 intro ae s σ H R I h;refine Call_ (jB I j m f (mJ (aN (n pos ae s σ H _ I h) λA c ⟨vs,H1,d,r,t⟩=>?_) o rfl));obtain⟨a,xs,e,v,q⟩:=t;subst e;obtain⟨u,rfl,w⟩:=vals1 r;cases w;obtain⟨its,B,pl,hz⟩:=d.list v;refine call_enumerate_list pl.isList λh' i hit hsz x=>?_;have y:Inv X ae σ H1 {c with heap:=h'}:=d.kept (t':=c.toks) x;refine wpAny_pyIter_enum i ⟨_,[c.heap.objs.size+1,c.heap.objs.size],_,_,H1,rfl,y,Yh a _ _ (kg (kc _)),⟨⟨_,i⟩,hit⟩,λb f=>?_,q⟩;have g:b=c.heap.objs.size+1\/b=c.heap.objs.size:=by simpa using f
 rcases g with z|z
 .subst z
  exact d.ng (nH _) (d.ar.fresh (nH _))
 .subst z
  exact d.ng (aJ _) (d.ar.fresh (aJ _))
def XD(K:Frag)(ta:TA):TE:=λσ H Q=>ta σ H λvs H1=>∃a b xs ys,vs=[.ref a,.ref b]/\aU K H1 a xs/\aU K H1 b ys/\
 ∀(l:Addr) (H':Hp) (ps:Bn),jb H1 H'->H1 l=none->H' l=some (.lst ps)->ps.length=min xs.length ys.length->(∀(j:Nat) p,ps[j]?=some p->∃t x y,p=.ref t/\xs[j]?=some x/\ys[j]?=some y/\H' t=some (.tup [x,y]))->Q (.ref l) H'
theorem Inv.many{ae:bh}{σ:St}{H H':Hp}{s:Shared}{h':Heap}{t':Nat}(I:Inv X ae σ H s)(kp:∀b o,s.heap.get? b=some o->h'.get? b=some o)(d:jb H H')
  (a:∀b o,H' b=some o->H b=some o\/(s.heap.objs.size<=b/\cg X.prog X.w H' h' b o)):Inv X ae σ H' {s with heap:=h',toks:=t'}:=by
 refine I.un (h':=h') (t':=t') ⟨λb o q _ _ _=>kp b o q,λb o q _ _ _=>⟨o.slots,kp b o q⟩,λb o q n _=>?_,λb o q _=>⟨o,kp b o q⟩,λb xs q=>d _ _ q,λb o u q=>d _ _ q,λb ps q=>⟨#[],by rw[d _ _ q];simp⟩⟩ λb o q=>?_
 .cases e:H' b with
  |none=>rfl
  |some u=>
   rcases a b u e with z|⟨z,_⟩
   .rw[n] at z;cases z
   .exact absurd (cY (aW q) z) (fJ _)
 .rcases a b o q with z|⟨_,z⟩
  .exact(I.ar b o z).stay (λc v _ r=>kp c v r) (λc r=>d _ _ r) λc xs r=>d _ _ r
  .exact z
theorem Uw{a b:Expr}{ta:TA}{p1 p2 m d:Pos}(O:Gl X "list")(P:X.mg "list"=none)(R:bootBuiltins "list"=some (.type "list"))(S:Gl X "zip")(T:X.mg "zip"=none)(U:bootBuiltins "zip"=some (.type "zip"))(hc:X.calm=true)(ha:PA X [a,b] ta)
  (hs:starEach [a,b] X.env=[(false,eval a X.env),(false,eval b X.env)]:=by rfl)(n:starEach [b] X.env=[(false,eval b X.env)]:=by rfl)
  (hz:starEach [.Call (.Name "zip" p2) [a,b] [] d] X.env=[(false,eval (.Call (.Name "zip" p2) [a,b] [] d) X.env)]:=by rfl):
  PE X (.Call (.Name "list" p1) [.Call (.Name "zip" p2) [a,b] [] d] [] m) (XD X.K ta):=by
 intro ae s σ H Q I h
 refine lH (jB I O P R ?_)
 refine mJ ?_ hz rfl
 rw[hz]
 refine yN (lH (jB I S T U (mJ (aN (ha d ae s σ H _ I h) λus c ⟨vs,H1,k,r1,q1⟩=> ?_) (by rw[hs,n]) (by rw[n];rfl))))
 obtain⟨pa,pb,xs,ys,e,hx,hy,q⟩:=q1
 subst e
 obtain⟨u1,u2,rfl,W,Y⟩:=vals2 r1
 cases W
 cases Y
 obtain⟨t,A,Z,hz1⟩:=k.list hx
 obtain⟨B,C,BS,hz2⟩:=k.list hy
 have l1:=A.length
 have l2:=C.length
 refine aN (ZL.R6 (E:=X.xe) (Q:=EP X ae σ Q) (k.ok.hd hc) Z.isList BS.isList (by simp only[bT];omega) λh' c' hp hS kp=> ?_) λz s2 hq=>yO hq
 have em:min t.toArray.size B.toArray.size=min xs.length ys.length:=by simp only[bT];omega
 rw[em] at hS
 have hn:∀j:Nat,H1 (c.heap.objs.size+j)=none:=λj=>k.ar.fresh (lz _ _)
 have pair:∀j:Nat,j<min xs.length ys.length->∃x y u v,xs[j]? =some x/\ys[j]? =some y/\RelV x u/\RelV y v/\IsPair h' (c.heap.objs.size+6+j) u v:=λj hj=>by
  have D:xs[j]? =some (xs[j]' ω):=a_ _
  have F:ys[j]? =some (ys[j]' ω):=a_ _
  obtain⟨u,hu,ru⟩:=A.get D
  obtain⟨v,hv,f⟩:=C.get F
  exact⟨_,_,u,v,D,F,ru,f,hp j u v (by simpa using hu) (by simpa using hv)⟩
 let H':Hp:=λb=>if b=c.heap.objs.size+5 then some (.lst ((range (min xs.length ys.length)).map λj=>V.ref (c.heap.objs.size+6+j))) else
  if c.heap.objs.size+6<=b/\b - (c.heap.objs.size+6)<min xs.length ys.length then some (.tup [(xs[b - (c.heap.objs.size+6)]?).getD .aG,(ys[b - (c.heap.objs.size+6)]?).getD .aG]) else H1 b
 have G:H' (c.heap.objs.size+5)=some (.lst ((range (min xs.length ys.length)).map λj=>V.ref (c.heap.objs.size+6+j))):=by
  show(if _ then _ else _)=_
  rw[aC rfl]
 have J:∀(j:Nat) x y,xs[j]? =some x->ys[j]? =some y->H' (c.heap.objs.size+6+j)=some (.tup [x,y]):=λj x y g i=>by
  have j1:=(bP.mp g).1
  have j2:=(bP.mp i).1
  have L:c.heap.objs.size+6+j - (c.heap.objs.size+6)=j:=Nat.add_sub_cancel_left _ _
  have QJ:j<min xs.length ys.length:=Nat.lt_min.mpr ⟨j1,j2⟩
  show(if _ then _ else if _ then _ else _)=_
  rw[ay (λz=>by have z': @Eq Nat (c.heap.objs.size+6+j) (c.heap.objs.size+5):=z;omega),aC ⟨lz _ _,by rw[L];exact QJ⟩,L,g,i]
  rfl
 have hold:jb H1 H':=λb o e=>by
  have hb: @LT.lt Nat _ b c.heap.objs.size:=k.ar.lt e
  show(if _ then _ else if _ then _ else _)=_
  rw[ay (λz=>by have z': @Eq Nat b (c.heap.objs.size+5):=z;omega),ay (λz=>by have z': @LE.le Nat _ (c.heap.objs.size+6) b:=z.1;omega)]
  exact e
 have M:∀b o,H' b=some o->H1 b=some o\/(c.heap.objs.size<=b/\cg X.prog X.w H' h' b o):=λb o e=>by
  by_cases hb:b=c.heap.objs.size+5
  .subst hb
   rw[G] at e
   cases e
   refine .inr ⟨lz _ _,by rw[aQ,rL];omega,(range (min xs.length ys.length)).map λj=>Value.ref (c.heap.objs.size+6+j),c',?_,hS⟩
   have:∀l:B2,Vals (l.map λj=>V.ref (c.heap.objs.size+6+j)) (l.map λj=>Value.ref (c.heap.objs.size+6+j)):=λl=>by
    induction l with
    |nil=>exact .nil
    |cons j r ih=>exact .cons rfl ih
   exact this _
  .by_cases N:c.heap.objs.size+6<=b/\b - (c.heap.objs.size+6)<min xs.length ys.length
   .obtain⟨g1,g2⟩:=N
    have eb:b=c.heap.objs.size+6+(b - (c.heap.objs.size+6)):=(Nat.add_sub_cancel' g1).symm
    obtain⟨x,y,u,v,g,i,ru,f,pr⟩:=pair _ g2
    rw[eb,J _ x y g i] at e
    cases e
    refine .inr ⟨dF (lz _ 6) g1,by show 2<=sizeLine;decide,[u,v],.cons ru (.cons f .nil),?_⟩
    rw[eb]
    exact⟨_,pr⟩
   .left
    have e':(if b=c.heap.objs.size+5 then some (HO.lst ((range (min xs.length ys.length)).map λj=>V.ref (c.heap.objs.size+6+j))) else
     if c.heap.objs.size+6<=b/\b - (c.heap.objs.size+6)<min xs.length ys.length then some (.tup [(xs[b - (c.heap.objs.size+6)]?).getD .aG,(ys[b - (c.heap.objs.size+6)]?).getD .aG]) else H1 b)=some o:=e
    rw[ay hb,ay N] at e'
    exact e'
 refine⟨.ref (c.heap.objs.size+5),H',k.many (h':=h') (t':=c.toks) kp hold M,rfl,q _ H' _ hold (hn 5) G (by rw[aQ,rL]) λj p e=> ?_⟩
 rw[bM] at e
 cases er:(range (min xs.length ys.length))[j]? with
 |none=>rw[er] at e;cases e
 |some j'=>
  rw[er] at e
  obtain⟨hj,L⟩:=bP.mp er
  rw[List.getElem_range] at L
  subst L
  cases e
  have hj':j<min xs.length ys.length:=by simpa using hj
  obtain⟨x,y,u,v,g,i,_⟩:=pair j hj'
  exact⟨_,x,y,rfl,g,i,J j x y g i⟩
inductive sL(K:Frag)(H:Hp):V->Value->Prop where
 |of {x:V} {t:Value} (h:jc K H x t):sL K H x t
 |tup {a:Addr} {xs:Bn} (h:bL K H a xs):sL K H (.ref a) (.type "tuple")
 |lst {a:Addr} {xs:Bn} (h:aU K H a xs):sL K H (.ref a) (.type "list")
theorem ME{X:Cx}:eG X (.builtin "isinstance") (λxs H Q=>∃x c t b,xs=[x,.ty c]/\sL X.K H x t/\kitOne X.K t (.type c)=some b/\Q (.bl b) H):=by
 intro ae s σ H xs i Q I r h;obtain⟨x,c,t,b,rfl,ty,e,q⟩:=h;obtain⟨u,j,rfl,a,d⟩:=vals2 r;cases d;cases ty with
 |of ty=>exact Rc I a ty e λtk=>⟨.bl b,H,I.tok tk,rfl,q⟩
 |tup f=>
  cases a;obtain⟨its,g,⟨o,h1,h2,_⟩,_⟩:=I.tuple f;exact i7 kitx_tuple I.e_ ⟨o,h1,h2⟩ e (λz=>nomatch z) λtk=>⟨.bl b,H,I.tok tk,rfl,q⟩
 |lst f=>
  cases a;obtain⟨its,g,pl,_⟩:=I.list f;obtain⟨o,h1,h2,_⟩:=pl.isList;exact i7 kitx_list I.e_ ⟨o,h1,h2⟩ e (λz=>nomatch z) λtk=>⟨.bl b,H,I.tok tk,rfl,q⟩
end L2
end
namespace MA
theorem Gq{a b:Int}(c:0<=a)(d:0<b):Int.gcd b (a%b)=Int.gcd a b:=by
 obtain⟨m,rfl⟩:=Int.eq_ofNat_of_zero_le c;obtain⟨n,rfl⟩:=Int.eq_ofNat_of_zero_le (dO d);rw[<-Int.natCast_emod,Int.gcd_natCast_natCast,Int.gcd_natCast_natCast,Nat.gcd_comm n (m%n),<-Nat.gcd_rec,Nat.gcd_comm]
def rf(x:Rat):Int×Int:=(x.num,(x.den:Int))
theorem ck(x:Rat):0<(rf x).2:=by
 have:=x.den_pos;show(0:Int)<(x.den:Int);omega
theorem iJ(x:Rat):((rf x).1:Rat)/((rf x).2:Rat)=x:=by
 show(x.num:Rat)/((x.den:Int):Rat)=x;rw[<-Rat.divInt_eq_div,Rat.divInt_ofNat,Rat.mkRat_self]
theorem VC{x y:Rat}(h:rf x=rf y):x=y:=by rw[<-iJ x,<-iJ y,h]
theorem yk{a b:Int}(c:0<b):(a/(Int.gcd a b:Int),b/(Int.gcd a b:Int))=rf ((a:Rat)/(b:Rat)):=by
 rw[<-Rat.divInt_eq_div];unfold rf;have h1:=Rat.num_divInt a b;have h2:=Rat.den_divInt a b;rw[h1,h2];have d:b.sign=1:=Int.sign_eq_one_of_pos c;rw[d,ay ω,one_mul,Int.gcd_comm b a];congr 1;have:(b.natAbs:Int)=b:=ω
 rw[Int.natCast_ediv,this]
inductive bK(N:Type) where
 |wt (n:N)
 |cz (l r:Int) (a b:bK N)
namespace bK
variable{N:Type}
def arms:bK N->Prop
 |wt _=>True
 |cz l r a b=>1<=l/\l<=9/\1<=r/\r<=9/\a.arms/\b.arms
def deep:bK N->Nat
 |wt _=>0
 |cz _ _ a b=>max a.deep b.deep+1
def names:bK N->List N
 |wt n=>[n]
 |cz _ _ a b=>a.names++b.names
noncomputable def sh:bK N->Rat->Fs
 |wt _,x=>[x]
 |cz l r a b,x=>a.sh (x*((r:Rat)/((l+r:Int):Rat)))++b.sh (x*((l:Rat)/((l+r:Int):Rat)))
theorem kR:∀(m:bK N),m.names.length<=2 ^ m.deep
 |wt _=>aJ 1
 |cz _ _ a b=>by
  have h1:=kR a;have h2:=kR b;have c:2 ^ a.deep<=2 ^ max a.deep b.deep:=fK δ (rJ _ _);have d:2 ^ b.deep<=2 ^ max a.deep b.deep:=fK δ (rK _ _);show List.length (_++_)<=2 ^ (max a.deep b.deep+1);rw[dZ,Nat.pow_succ];omega
theorem HD:∀(m:bK N),0<m.names.length
 |wt _=>Nat.zero_lt_one
 |cz _ _ a b=>by
  have h1:=HD a;show 0<List.length (_++_);rw[dZ];omega
end bK
theorem uH:rf 1=(1,1):=by rfl
theorem iO{a:Int}(h:a≠0):(a:Rat)≠0:=by
 intro z;exact h (by exact_mod_cast z)
theorem B_(t:Rat)(a b:Int):rf ((((rf t).1*a:Int):Rat)/(((rf t).2*b:Int):Rat))=rf (t*((a:Rat)/(b:Rat))):=by
 have h1:=iO (gR (ck t));congr 1;rw[gU,gU];have d:=iJ t;by_cases c:(b:Rat)=0
 .rw[c];grind
 .grind
theorem Ca(t s:Rat):rf ((((rf t).1*(rf s).1:Int):Rat)/(((rf t).2*(rf s).2:Int):Rat))=rf (t*s):=by
 rw[B_,iJ]
theorem N4{a b:Int}(c:0<b):(rf ((a:Rat)/(b:Rat))).2<=b:=by
 rw[<-yk c];show b/(Int.gcd a b:Int)<=b;exact r_ _ (dO c)
theorem den_mul{t:Rat}{a b:Int}(c:0<b):(rf (t*((a:Rat)/(b:Rat)))).2<=(rf t).2*b:=by
 rw[<-B_];exact N4 (cT (ck t) c)
theorem cW{x:Rat}(h:0<x):0<(rf x).1:=by
 have h1:0<=(rf x).1:=Rat.num_nonneg.mpr (Rat.le_of_lt h);have h2:(rf x).1≠0:=λz=>by
  have e:=iJ x;rw[z] at e;have a:x=0:=by rw[<-e,vd];grind
  rw[a] at h;exact absurd h δ
 omega
namespace bK
variable{N:Type}
theorem step_pos{l r:Int}{x:Rat}(hl:1<=l)(a:1<=r)(h:0<x):0<x*((r:Rat)/((l+r:Int):Rat)):=by
 have h1:(0:Rat)<(r:Rat):=by exact_mod_cast (ω:(0:Int)<r)
 have h2:(0:Rat)<((l+r:Int):Rat):=by exact_mod_cast (ω:(0:Int)<l+r)
 exact mQ h (by rw[vd];exact mQ h1 (Rat.inv_pos.mpr h2))
theorem yq:∀(m:bK N) (x:Rat) (B:Int),m.arms->0<x->(rf x).2<=B->∀s∈m.sh x,0<s/\(rf s).2<=B*18 ^ m.deep
 |wt _,x,B,_,h1,h2,s,hs=>by
  have:s=x:=by simpa[sh] using hs
  subst this;exact⟨h1,by simpa[deep] using h2⟩
 |cz l r a b,x,B,h,h1,h2,s,hs=>by
  obtain⟨f,u,g,v,i,j⟩:=h;have n:0<B:=rZ (ck x) h2;have o:(rf (x*((r:Rat)/((l+r:Int):Rat)))).2<=B*18:=by
   refine eN (den_mul ω) ?_;exact dH h2 ω ω ω
  have p:(rf (x*((l:Rat)/((l+r:Int):Rat)))).2<=B*18:=by
   refine eN (den_mul ω) ?_;exact dH h2 ω ω ω
  have q:0<x*((r:Rat)/((l+r:Int):Rat)):=step_pos f g h1;have p2:0<x*((l:Rat)/((l+r:Int):Rat)):=by
   have:=step_pos (l:=r) (r:=l) g f h1;rwa [add_comm r l] at this
  have up:∀k:Nat,k<=max a.deep b.deep->B*18*18 ^ k<=B*18 ^ (max a.deep b.deep+1):=λk t=>by
   rw[jn,lC,nO 18 (18 ^ k)];refine pY ?_ (dO n);refine y_ ?_ δ;have:(18:Nat) ^ k<=18 ^ max a.deep b.deep:=fK δ t;exact_mod_cast this
  have c:s∈a.sh (x*((r:Rat)/((l+r:Int):Rat)))\/s∈b.sh (x*((l:Rat)/((l+r:Int):Rat))):=cu.mp hs;rcases c with hs|hs
  .obtain⟨d,e⟩:=yq a _ _ i q o s hs
   exact⟨d,eN e (up _ (rJ _ _))⟩
  .obtain⟨d,e⟩:=yq b _ _ j p2 p s hs
   exact⟨d,eN e (up _ (rK _ _))⟩
end bK
noncomputable def fC{W N S:Type}[DecidableEq N][DecidableEq S](pre:List (W×N×S)):List (W×N×S)->Option (W×W)
 |[]=>none
 |(w,n,s)::r=>match pre.find? (λp=>decide (p.2.1=n)) with
  |some p=>if p.2.2=s then fC (pre++[(w,n,s)]) r else some (p.1,w)
  |none=>fC (pre++[(w,n,s)]) r
end MA
section
open PySem PySem.Spec PyProof.Rows
namespace L2
section
variable{P:Program}{w:World}{H H':Hp}{h:Heap}{a:Addr}{o:HO}
theorem cg.obj(x:cg P w H h a o):∃u,h.get? a=some u:=by
 cases o with
 |lst xs=>obtain⟨_,_,_,_,e⟩:=x;exact⟨_,e⟩
 |tup xs=>obtain⟨_,_,_,_,e⟩:=x;exact⟨_,e⟩
 |dK kvs=>obtain⟨_,_,_,_,o,_,_,e,_⟩:=x;exact⟨_,e⟩
 |dT kvs=>obtain⟨_,_,_,_,o,_,_,e,_⟩:=x;exact⟨_,e⟩
 |set S n=>obtain⟨o,_,_,_,e,_⟩:=x;exact⟨_,e⟩
 |ins C dx fs=>obtain⟨_,_,_,e,_⟩:=x;exact⟨_,e⟩
 |own y=>exact x
 |xd fs=>obtain⟨_,⟨_,_,_,e,_⟩,_⟩:=x;exact⟨_,e⟩
 |fF lo hi=>obtain⟨_,_,_,e⟩:=x;exact⟨_,e⟩
 |bZ b u=>obtain⟨e,_⟩:=x;exact⟨_,e⟩
 |jl ps=>exact⟨_,(show h.get? a=some _ from x)⟩
 |met f y=>exact⟨_,(show h.get? a=some _ from x)⟩
 |ext c=>obtain⟨_,e,_⟩:=x;exact e
end
structure gZ(P:Program)(w:World)(outer:Fh)(H H':Hp)(s s':Shared)(a:Addr)(C:Value):Prop where
 os:s'.os=s.os
 bare:AllBare s'.gens
 slot:∀b o,s.heap.get? b=some o->b∈frs outer->∃sl,s'.heap.get? b=some {o with slots:=sl}
 free:∀b o,s.heap.get? b=some o->H b=none->H' b=none
 tups:∀b xs,H b=some (.tup xs)->H' b=some (.tup xs)
 fM:∀b o u,H b=some (.bZ o u)->H' b=some (.bZ o u)
 gk:∀b ps,H b=some (.jl ps)->∃more,H' b=some (.jl (ps++more))
 fl:∃(B:Heap) (a0:Value),(∀b o,s.heap.get? b=some o->H b=none->b∉frs outer->B.get? b=some o)/\(∀b o,s.heap.get? b=some o->b∉frs outer->∃o',B.get? b=some o')/\cZ P w H' B/\FlyingW B outer a C a0 s'.heap
section
variable{P:Program}{w:World}{outer:Fh}{H H':Hp}{s s':Shared}{a:Addr}{C:Value}
theorem gZ.un(F:gZ P w outer H H' s s' a C):Un (frs outer) [] H H' s.heap s'.heap where
 keep:=λb o q n c _=>by
  obtain⟨B,a0,k,_,_,f⟩:=F.fl
  exact f.1 b o (k b o q n c)
 slot:=λb o q n c _=>F.slot b o q c
 free:=λb o q n _=>F.free b o q n
 there:=λb o q _=>by
  by_cases c:b∈frs outer
  .obtain⟨d,e⟩:=F.slot b o q c
   exact⟨_,e⟩
  .obtain⟨B,a0,_,t,_,f⟩:=F.fl
   obtain⟨o',e⟩:=t b o q c
   exact⟨o',f.1 b o' e⟩
 tups:=F.tups
 fM:=F.fM
 gk:=F.gk
theorem gZ.ar(F:gZ P w outer H H' s s' a C):cZ P w H' s'.heap:=by
 obtain⟨B,a0,_,_,h,f⟩:=F.fl;exact h.kept f.1
theorem gZ.new(F:gZ P w outer H H' s s' a C):H' a=none:=by
 obtain⟨B,a0,_,_,h,f⟩:=F.fl;cases e:H' a with
 |none=>rfl
 |some o=>
  obtain⟨u,q⟩:=(h a o e).obj;rw[f.2.1] at q;cases q
end
noncomputable def bU(P:Program)(w:World):i_:=λouter H s E e s'=>∃(a:Addr) (C:Value) (H':Hp),e=.ref a/\gZ P w outer H H' s s' a C/\E C none H'
variable{X:Cx}
section
variable{ae:bh}{σ:St}{H H':Hp}{s s':Shared}{a:Addr}{C:Value}
theorem F9(I:Inv X ae σ H s)(hex:X.ex=[])(os:s'.os=s.os)(bare:AllBare s'.gens)(slot:∀b o,s.heap.get? b=some o->b∈frs X.outer->∃i,s'.heap.get? b=some {o with slots:=i})
  (free:∀b o,s.heap.get? b=some o->H b=none->H' b=none)(tups:∀b xs,H b=some (.tup xs)->H' b=some (.tup xs))(fM:∀b o u,H b=some (.bZ o u)->H' b=some (.bZ o u))
  (gk:∀b ps,H b=some (.jl ps)->∃d,H' b=some (.jl (ps++d)))
  (fl:∃(B:Heap) (a0:Value),(∀b o,s.heap.get? b=some o->H b=none->b∉frs X.stack->B.get? b=some o)/\(∀b o,s.heap.get? b=some o->b∉frs X.stack->∃o',B.get? b=some o')/\cZ X.prog X.w H' B/\FlyingW B X.outer a C a0 s'.heap):
  gZ X.prog X.w X.outer X.H₀ H' X.s₀ s' a C:=by
 have nx:∀b:Addr,b∉X.ex:=λb=>by rw[hex];simp
 have g:∀b o,X.s₀.heap.get? b=some o->b∉frs X.outer->b∉frs X.stack:=λb o q c z=>by
  rcases bx.mp (I.rB b z) with e|e
  .exact absurd (cY (aW q) I.ok.above) (by rw[e];exact fJ _)
  .exact c e
 refine⟨os.trans I.os,bare,λb o q c=> ?_,λb o q n=> ?_,λb xs q=>tups b xs (I.base.tups b xs q),λb o u q=>fM b o u (I.base.fM b o u q),λb ps q=> ?_,?_⟩
 .obtain⟨i,e⟩:=I.base.slot b o q (I.ok.kJ b c) c (nx b)
  obtain⟨j,l⟩:=slot b _ e c
  exact⟨j,l⟩
 .obtain⟨i,e⟩:=I.base.any q n (nx b)
  exact free b _ e (I.base.free b o q n (nx b))
 .obtain⟨m,p⟩:=I.base.gk b ps q
  obtain⟨r,v⟩:=gk b _ p
  exact⟨m++r,by rw[v,Array.append_assoc]⟩
 .obtain⟨B,a0,k,t,h,f⟩:=fl
  refine⟨B,a0,λb o q n c=>k b o (I.base.keep b o q n c (nx b)) (I.base.free b o q n (nx b)) (g b o q c),λb o q c=> ?_,h,f⟩
  obtain⟨o',e⟩:=I.base.there b o q (nx b)
  exact t b o' e (g b o q c)
end
def Raises(X:Cx)(E:XK):Prop:=∀(ae:bh) (σ:St) (H:Hp) (s:Shared) (e:Addr) (h':Heap) (C:Value) (args:BM),Inv X ae σ H s->Heap.MadeExcOf s.heap h' e C args->E C none H->X.xe (.ref e) {s with heap:=h'}
section
variable{P:Program}{w:World}{K:Frag}{mg:aA}{base:Heap}{N:Ap}{qual:Str}{scope:Scope}{f:Addr}{cd:Value}{A:Around}{outer:Fh}{s:Shared}{H:Hp}{E:XK}
theorem Gh{env:Env}{l:Fh}{b:Addr}(h:b∈frs l):b∈frs (env::l):=by
 obtain⟨e,a,c⟩:=uY.mp h;exact uY.mpr ⟨e,bz _ a,c⟩
theorem IZ:Raises (cR (bU P w) P w K mg base N qual scope f cd A outer s H E) E:=by
 intro ae σ H1 j e h' C args I i k;have stk:=I.stack;have pF:∀b o,H1 b=some o->b∉frs (cR (bU P w) P w K mg base N qual scope f cd A outer s H E).stack:=λb o q z=>by
  rw[I.Ck b z] at q;cases q
 have h:∀a∈(cR (bU P w) P w K mg base N qual scope f cd A outer s H E).stack,∀b,a.frame=some b->b∈frs (cR (bU P w) P w K mg base N qual scope f cd A outer s H E).stack:=λa l b d=>uY.mpr ⟨a,l,d⟩;show wpAny (model P w) _ (leaving _ (.ref e)) _ _ _;refine wpAny_leaves_madeW (base:=hideAll j.heap (frs (cR (bU P w) P w K mg base N qual scope f cd A outer s H E).stack)) I.ok.frames rfl (λb o q=>of_hideAll _ q) (PySem.W.funFrames_hide stk h) i λh'' t fl tup m up=>?_;refine⟨e,C,H1,rfl,F9 I rfl rfl I.bare (λb o q d=>?_) (λ_ _ _ n=>n) (λ_ _ q=>q) (λ_ _ _ q=>q) (λ_ ps q=>⟨#[],by rw[q];simp⟩) ⟨_,_,λb o q n d=>hideAll_get _ q d,λb o q d=>⟨o,hideAll_get _ q d⟩,λb o q=>?_,fl⟩,k⟩
 .obtain⟨_,o',g,hd⟩:=stk.mem (Gh (env:=envOfC qual scope s.heap.objs.size f cd) d)
  rw[q] at g;cases g;exact up b o (i.keeps b o q) hd
 .refine(I.ar b o q).stay (λc u hc r=>hideAll_get _ r ?_) (λ_ r=>r) λ_ _ r=>r
  rcases hc with z|z
  .rw[z];exact pF b o q
  .exact pF c _ z
theorem Ib:Passes (bU P w) (cR (bU P w) P w K mg base N qual scope f cd A outer s H E) E:=by
 intro ae σ H1 n e s' I h;obtain⟨a,C,H',rfl,F,j⟩:=h;obtain⟨B,a0,k,th,ar,fl⟩:=F.fl;show wpAny (model P w) _ (leaving _ (.ref a)) _ _ _;refine wpAny_leaves_onW I.ok.frames rfl fl λh'' g up=>⟨a,C,H',rfl,F9 I rfl F.os F.bare (λb o q l=>?_) F.free F.tups F.fM F.gk ⟨B,a0,k,th,ar,g⟩,j⟩;have c:=Gh (env:=envOfC qual scope s.heap.objs.size f cd) l;obtain⟨p,e⟩:=F.slot b o q c;obtain⟨_,o',d,hd⟩:=fl.2.2.1.mem c;rw[e] at d;cases d;obtain⟨i,m⟩:=up b _ e hd;exact⟨i,m⟩
theorem dM:PassesOwn (model P w) (cR (bU P w) P w K mg base N qual scope f cd A outer s H E).A (cR (bU P w) P w K mg base N qual scope f cd A outer s H E).env (cR (bU P w) P w K mg base N qual scope f cd A outer s H E).xe:=
 PassesOwn.leaving
end
abbrev nF:BM:=[.type "ValueError",.type "Exception",.type "BaseException",.type "object"]
theorem OH{K:Frag}{h:Heap}{C:Addr}{b:BM}{newId:String}(X:K.In h)(q:excIn K C b newId=true):∃nm d N bs bm hdct sn sub ab col dd k0 k1 k2 k3 k5,∃mN:aA,
  h.get? C=some (excClassObj nm d C N bs bm hdct sn sub ab col dd k0 k1 k2 k3 k5 newId)/\h.Ns N mN/\mN "__init__"=none/\OwnTail h b bm:=by
 unfold excIn at q;split at q
 .rename_i dd cd f j
  split at q
  .rename_i m bm k0 k1 k2 k3 n k5 g i
   simp only[gE,kr,not_eq_true'] at q;obtain⟨⟨⟨⟨⟨rfl,rfl⟩,a⟩,k⟩,ar⟩,c⟩:=q;obtain⟨nm,bs,mro,ns,d,hd,sn,sub,ab,col,del⟩:=cd;dsimp only at g a ar c;subst g a;have e:f= #[k0,k1,k2,k3,some (.builtin n),k5]:=by
    obtain⟨l⟩:=f;simp only at i;rw[i]
   subst e;exact⟨nm,d,ns,bs,bm,hd,sn,sub,ab,col,dd,k0,k1,k2,k3,k5,_,X _ _ j,.of_isNs (PySem.W.isNs_of_in X ar),PySem.W.nsMap_none_of_in X ar c,PySem.W.tail_of_in X k⟩
  .cases q
 .cases q
section
variable{E:XK}{x:Str}{C:Addr}{e:Expr}{t:TA}{np cpos pos:Pos}
def XO(E:XK)(C:Addr)(t:TA):TS:=λ_ σ H=>t σ H λvs H1=>vs.length<=sizeLine/\E (.ref C) none H1
theorem U_(j:Raises X E)(hc:X.calm=true)(k:X.mg x=some (.ref C))(l:excIn X.K C nF "ValueError.__new__"=true)(m:PA X [e] t)(n:Gl X x:=by rfl)(b:(x==("__debug__":Str))=false:=by decide)
  (f:starEach [e] X.env=[(false,eval e X.env)]:=by rfl):PS X (.Raise (some (.Call (.Name x np) [e] [] cpos)) none pos) (XO E C t):=by
 intro ae s σ H D I h;obtain⟨nm,o,N,bs,bm,hdct,sn,sub,ab,col,dd,k0,k1,k2,k3,k5,mN,c,p,d,g⟩:=OH I.mod.o7 l;refine wpAny_Raise_call_subT (nm:=nm) (q:=o) (C:=C) (N:=N) (bs:=bs) (bm:=bm) (hdct:=hdct) (sn:=sn) (sub:=sub) (ab:=ab) (col:=col) (dd:=dd) (k0:=k0) (k1:=k1) (k2:=k2) (k3:=k3) (k5:=k5) (mN:=mN) PySem.F.excBase_ValueError (g.hasType η) (I.ok.hd hc) (by rw[f];rfl) d (tW I n k ⟨rfl,?_⟩ b);have h':=m cpos ae s σ H _ I h;rw[f] at h' ⊢;refine Calls.evalArgs_plain (aN h' λr w ⟨vs,H1,a,u,i⟩=>?_);have hl:=u.length;exact⟨rfl,by show r.length<=sizeLine;rw[<-hl];exact i.1,a.bk _ _ c,p.keeps a.bk,g.keeps a.bk,λh2 y v=>j _ _ _ _ _ _ _ _ a v i.2⟩
end
def excAt(a:Addr)(C:Value)(h:Heap):Prop:=∃o,h.get? a=some o/\o.cls=C
structure oh(K:Frag)(C:Addr):Prop where
 ga:findIn K (.ref C) "__getattribute__"=some (some (.builtin "BaseException.__getattribute__"))
 gh:findIn K (.ref C) "__getattr__"=some none
 fc:findIn K (.ref C) "__class__"=some (some (.builtin "object.__class__"))
 fg:specialIn K (.builtin "object.__class__") "__get__"=some (some (.builtin "getset_descriptor.__get__"))
 ft:takesIn K (.builtin "object.__class__")=some true
 mo:mroIn K C (.type "object")=some true
 mb:mroIn K C (.type "BaseException")=some true
 cl:(PySem.W.clsIn K C).isSome=true
section
variable{prog:Program}{w:World}{A:Around}{E:aR}{s:Shared}{K:Frag}{x C:Addr}{ox:Obj}
open PySem.W Builtin Builtin.ObjectAttr in
theorem PZ{M:Model}{h:Heap}{name:Str}{a g:Value}(X:K.In h)(h1:findIn K (.ref C) name=some (some a))(h2:specialIn K a "__get__"=some (some g))(b:takesIn K a=some true):
  Looks M h (find (.ref x) (.ref C) name) (.bind g a):=by
 have c:=looks_findIn (M:=M) X h1;have L2:Looks M h (getOf (some a)) (some g):=looks_specialIn X h2;have d:=looks_takesIn (M:=M) X b;exact c.andThen (L2.andThen ((show Looks M h (dataDescriptor? (some a) (some g)) (some (g,a)) from d.andThen .now).andThen (Looks.tag .now)))
open PySem.W Builtin Builtin.ObjectAttr Builtin.Getset_descriptor in
theorem OG{R:Result->Shared->Prop}{a:Value}(X:K.In s.heap)(c:Looks (model prog w) s.heap (typeOf (.ref x)) (.ref C))(b:mroIn K C (.type "object")=some true)
  (h:R (.ok (.ret (.ref C))) s):codeAny (model prog w) A (.call (.builtin "getset_descriptor.__get__") ⟨[.builtin "object.__class__",.ref x,a],[]⟩) R s:=by
 obtain⟨d,g,e,t,os⟩:=s;have f:=looks_mroIn (M:=model prog w) X b;refine C5 KF.slot_gs.plain KF.entry_gs (KF.slot_gs.check _ _ _ _ _ _ _ _ KF.type_class (KF.args_gs _ _ _) ?_);unfold Builtin.«getset_descriptor.__get__» descrGet;rw[dga_obj];refine ah (aF ?_);unfold descrGetter descrCheckInstance descrNameAndClass isInstance;simp only[KF.owner_class];repeat lk
 refine⟨Code.quiet_builtin _ η,i9 KF.entry_class ?_⟩;unfold Builtin.«object.__class__» shownTypeOf;repeat lk
 exact h
open PySem.W in
theorem OF(Z:oh K C){Q:Option Value->Shared->Prop}(X:K.In s.heap)(I:excAt x (.ref C) s.heap)(h:Q (some (.ref C)) {s with toks:=s.toks+1}):wpAny (model prog w) A (getAttr? (.ref x) "__class__") Q E s:=by
 obtain⟨f,g,d,t,os⟩:=s;obtain⟨ox,i,hc⟩:=I;have b:Looks (model prog w) f (typeOf (.ref x)) (.ref C):=hc▸(Looks.ld i).andThen .now;have j:=looks_findIn (M:=model prog w) X Z.ga;have L2:=looks_findIn (M:=model prog w) X Z.gh;have k:=PZ (x:=x) (M:=model prog w) X Z.fc Z.fg Z.ft;have l:=looks_mroIn (M:=model prog w) X Z.mb;have m:builtinKind "BaseException.__getattribute__"=some .slot:=η
 have a:splitId "BaseException.__getattribute__"=some ("BaseException","__getattribute__"):=η
 have n:=PySem.F.excAttr_ValueError.ga.bind (.ref x);have c:(Value.builtin "BaseException.__getattribute__" ==Value.builtin "object.__getattribute__")=false:=η
 unfold getAttr? getAttrBy? getAttrBy;refine ah (wpAny_mkText (ah (nL (gn (ah (b.at (ah (j.at ?_))))))));have e:(onTheHeap (Value.ref C)&&Value.builtin "BaseException.__getattribute__" ==Value.builtin "object.__getattribute__")=false:=by rw[c];rfl
 show wpAny _ _ (if (onTheHeap (Value.ref C)&&Value.builtin "BaseException.__getattribute__" ==Value.builtin "object.__getattribute__")=true then _ else _) _ _ _;rw[e,ay δ];unfold getAttrByItsOwn hookBefore;refine ah ?_;show wpAny _ _ (typeLookup (.ref C) "__getattr__") _ _ _;refine L2.at ?_;refine ah (nL (gn ?_));unfold callGetattribute boundAndCalled;rw[ay θ,n];refine ah (aF ?_);show wpAny _ _ (call (.builtin "BaseException.__getattribute__") [.ref x,.str "__class__" t]) _ _ _;have o:=PySem.F.args_bexc_ga (.ref x) (.str "__class__" t);refine wpAny_call (C5 PySem.F.excAttr_ValueError.ga.plain PySem.F.entry_bexc_ga ?_);simp only[checkBuiltinCall,m,a];refine ah ?_;unfold isInstance;refine ah (b.at (l.at ?_));repeat (any_goals (first|assumption|(with_reducible refine b.at ?_)|(with_reducible refine k.at ?_)|wp_step))
 refine OG (s:={heap:=f,gens:=g,drawn:=d,toks:=t+1,os:=os}) X b Z.mo ?_;refine aF ?_;show wpAny _ _ (handedOut (.ref C)) _ _ _;exact handed_on rfl (aF h)
open PySem.W in
theorem RO(Z:oh K C):KitX K (.ref x) (.ref C) (excAt x (.ref C)) where
 ty:=λ_ h _ p=>by
  obtain⟨ox,a,hc⟩:=p;exact hc▸(Looks.ld a).andThen .now
 it:=λ_ _ X _=>by
  have z:=Z.cl;unfold clsIn at z;split at z
  .rename_i c' d' b c a
   intro A' g i s' k q;unfold isType loadHead;exact ah (wpAny_loadPart (k _ _ (X _ _ a)) (aF q))
  .cases z
 ne:=λh f dd its n j X d=>by
  refine Bool.eq_false_iff.mpr λq=>?_;have e:C=f:=Value.ref.inj (kr.mp q);subst e;have z:=Z.cl;unfold clsIn at z;split at z
  .rename_i c' d' b c a
   have z:=(X _ _ a).symm.trans d;cases z
  .cases z
 ca:=λX p k=>OF Z X p k
end
abbrev qG(a C:Addr):HO:=.ext (excAt a (.ref C))
theorem Eo:eG X (.builtin "isinstance") (λxs H Q=>∃(a:Addr) (y:V) (C:Addr) (c:Value) (b:Bool),xs=[.ref a,y]/\(∀u,RelV y u->u=c)/\H a=some (qG a C)/\oh X.K C/\kitOne X.K (.ref C) c=some b/\Q (.bl b) H):=by
 intro ae s σ H xs j Q I r h;obtain⟨a,y,C,c,b,rfl,f,g,Z,e,q⟩:=h;obtain⟨u,k,rfl,i,d⟩:=vals2 r;cases i;cases f _ d;exact i7 (RO Z) I.e_ (I.ar a _ g).1 e (λz=>nomatch z) λtk=>⟨.bl b,H,I.tok tk,rfl,q⟩
abbrev Cx.l7(X:Cx)(e:Addr):Cx:={X with A:=X.A.mark (some (.ref e)),calm:=false,xe:=λ_ _=>False}
abbrev Cx.tried(X:Cx)(pn:bh)(E:aR):Cx:={X with pn:=pn,xe:=E}
section
variable{ae:bh}{σ:St}{H:Hp}{s:Shared}
theorem Inv.l7(I:Inv X ae σ H s)(e:Addr):Inv (X.l7 e) ae σ H s:=
 ⟨⟨I.ok.mod,I.ok.kind,I.ok.glob,I.ok.blt,I.ok.above,I.ok.inj,I.ok.has,I.ok.oz,(λz=>nomatch z),I.ok.frames,I.ok.stk,I.ok.v8,I.ok.bs,I.ok.jU,I.ok.pC,I.ok.qH,I.ok.iS,I.ok.kJ⟩,I.os,I.bare,I.base,I.loc,I.cell,I.free,I.gv,I.pin,I.ar,I.len⟩
theorem Inv.Ud{e:Addr}(ok:X.Ok)(I:Inv (X.l7 e) ae σ H s):Inv X ae σ H s:=
 ⟨ok,I.os,I.bare,I.base,I.loc,I.cell,I.free,I.gv,I.pin,I.ar,I.len⟩
theorem Inv.tried(I:Inv X ae σ H s)(E:aR):Inv (X.tried (X.pn++ae) E) [] σ H s:=
 ⟨⟨I.ok.mod,I.ok.kind,I.ok.glob,I.ok.blt,I.ok.above,I.ok.inj,I.ok.has,I.ok.oz,I.ok.hd,I.ok.frames,I.ok.stk,I.ok.v8,I.ok.bs,I.ok.jU,I.ok.pC,I.ok.qH,I.ok.iS,I.ok.kJ⟩,I.os,I.bare,I.base,I.loc,I.cell,I.free,I.gv,
  λp a=>I.pin p ((cu.mp a).elim id λz=>absurd z θ),I.ar,I.len⟩
theorem Inv.k8{E:aR}{a:bh}(ok:X.Ok)(I:Inv (X.tried (X.pn++ae) E) a σ H s):Inv X ae σ H s:=
 ⟨ok,I.os,I.bare,I.base,I.loc,I.cell,I.free,I.gv,λp b=>I.pin p (mK _ b),I.ar,I.len⟩
theorem SP.k8{E:aR}{a:bh}{D:Ends}{f:Flow}(ok:X.Ok)(h:SP (X.tried (X.pn++ae) E) a D f s):SP X ae D f s:=by
 cases f with
 |next=>obtain⟨σ',H',I,q⟩:=h;exact⟨σ',H',I.k8 ok,q⟩
 |brk=>obtain⟨σ',H',I,q⟩:=h;exact⟨σ',H',I.k8 ok,q⟩
 |cont=>obtain⟨σ',H',I,q⟩:=h;exact⟨σ',H',I.k8 ok,q⟩
 |ret u=>obtain⟨v,σ',H',I,r,q⟩:=h;exact⟨v,σ',H',I.k8 ok,r,q⟩
theorem Inv.Yb{a:Addr}{f:Heap->Prop}(I:Inv X ae σ H s)(j:∀b o,X.s₀.heap.get? b=some o->X.H₀ b=none->b≠a)(nl:X.env.locals≠a)(k:∀x c,X.env.cells.lookup x=some c->c≠a)(np:∀p∈X.pn++ae,p.1≠a)
  (d:H a=none)(g:f s.heap)(l:∃o,s.heap.get? a=some o)(st:∀h1 h2:Heap,f h1->(∀o,h1.get? a=some o->h2.get? a=some o)->f h2):Inv X ae σ (ax H a (.ext f)) s:=by
 refine⟨I.ok,I.os,I.bare,⟨I.base.keep,I.base.slot,λb o q n g=>?_,I.base.there,λb xs q=>?_,λb o u q=>?_,λb ps q=>?_⟩,I.loc,I.cell,?_,λx c e=>?_,λp h=>?_,λb o q=>?_,I.len⟩
 .rw[aX (j b o q n)];exact I.base.free b o q n g
 .have z:=I.base.tups b xs q
  rw[aX (c_ z d)];exact z
 .have z:=I.base.fM b o u q
  rw[aX (c_ z d)];exact z
 .obtain⟨m,z⟩:=I.base.gk b ps q
  exact⟨m,by rw[aX (c_ z d)];exact z⟩
 .rw[aX nl];exact I.free
 .rw[aX (k x c e)];exact I.gv x c e
 .obtain⟨e,n,r⟩:=I.pin p h
  exact⟨e,by rw[aX (np p h)];exact n,r⟩
 .by_cases i:b=a
  .subst i
   rw[d9] at q;cases q;exact⟨g,l,st⟩
  .rw[aX i] at q
   exact(I.ar b o q).stay (λ_ _ _ r=>r) (λc r=>by rw[aX (c_ r d)];exact r) λc xs r=>by rw[aX (c_ r d)];exact r
theorem Inv.Mv{h':Heap}{t':Nat}{l:aA}(I:Inv X ae σ H s)(a:SameBut X.env.locals s.heap h')(r:h'.Ns X.env.locals l):Inv X ae (replicate X.N.length none) H {s with heap:=h',toks:=t'}:=by
 have kH:=I.kH;obtain⟨m,t,_⟩:=id I.loc;obtain⟨B,_,_,u,_⟩:=id t;have up:∀b o,X.s₀.heap.get? b=some o->b≠X.env.locals:=λb o e=>bJ (cY (aW e) I.ok.above);refine⟨I.ok,I.os,I.bare,⟨λb o e n h f=>?_,λb o e n h f=>?_,I.base.free,λb o e f=>?_,I.base.tups,I.base.fM,I.base.gk⟩,⟨_,r,λj y C g i D=>?_⟩,λy c e=>?_,I.free,I.gv,λp v=>?_,λb w e=>?_,θ⟩
 .exact(a.2 b (up b o e)).trans (I.base.keep b o e n h f)
 .obtain⟨x,g⟩:=I.base.slot b o e n h f
  exact⟨x,(a.2 b (up b o e)).trans g⟩
 .obtain⟨o',g⟩:=I.base.there b o e f
  exact⟨o',(a.2 b (up b o e)).trans g⟩
 .rw[zb] at i
  split at i<;>cases i
 .obtain⟨k,z⟩:=I.cell y c e
  exact⟨k,z.sameBut a (kH y c e)⟩
 .obtain⟨e,n,ne,A,d⟩:=I.pin p v
  exact⟨(a.2 p.1 ne).trans e,n,ne,A,d⟩
 .refine(I.ar b w e).stay (λc k hc q=>(a.2 c ?_).trans q) (λ_ q=>q) λ_ _ q=>q
  rintro rfl;rcases hc with rfl|hc
  .rw[I.free] at e;cases e
  .rw[I.free] at hc;cases hc
end
section
variable{P:Program}{w:World}{outer:Fh}{H H':Hp}{s s':Shared}{a:Addr}{C a0:Value}{B h'':Heap}
theorem gZ.move(F:gZ P w outer H H' s s' a C)(h:∀b o,s.heap.get? b=some o->H b=none->b∉frs outer->B.get? b=some o)(th:∀b o,s.heap.get? b=some o->b∉frs outer->∃o',B.get? b=some o')(ar:cZ P w H' B)
  (fl:FlyingW B outer a C a0 s'.heap)(d:FlyingW B outer a C a0 h'')(up:s'.heap.UpToSlots h''):gZ P w outer H H' s {s' with heap:=h''} a C:=by
 refine⟨F.os,F.bare,λb o q g=>?_,F.free,F.tups,F.fM,F.gk,B,a0,h,th,ar,d⟩;obtain⟨j,e⟩:=F.slot b o q g;obtain⟨_,o',c,hd⟩:=fl.2.2.1.mem g;rw[e] at c;cases c;obtain⟨f,i⟩:=up b _ e hd;exact⟨f,i⟩
theorem gZ.ne(F:gZ P w outer H H' s s' a C){b:Addr}{o:Obj}(q:s.heap.get? b=some o)(n:H b=none):b≠a:=by
 rintro rfl;obtain⟨B,a0,f,th,ar,fl⟩:=F.fl;obtain⟨h,vs,g,_,hd,_⟩:=fl.first
 by_cases e:b∈frs outer
 .obtain⟨_,o',c,d⟩:=fl.2.2.1.mem e
  rw[g] at c;cases c;exact d _ hd
 .have z:=f b o q n e
  rw[fl.2.1] at z;cases z
end
def XU(K:Frag)(len i:Nat)(D:Addr)(tb:List (Addr×Obj)->(aR)->XK->TS)(th:TS):TS:=λDn σ H=>
 ∀(pn:bh) (E:aR),tb pn E (λC _ H'=>∃c:Addr,C=.ref c/\exmOne K (.ref c) (.ref D)=some true/\∀(a:Addr) (σ':St),σ'.length=len->H' a=none->th {nx:=λ_ _=>False,rt:=Dn.rt} (σ'.set i (some (.ref a))) (ax H' a (qG a c))) Dn σ H
section
variable{D:Addr}{i:Nat}{n cn:Str}{b₀:Stmt}{suite body:Fu}{tb:List (Addr×Obj)->(aR)->XK->TS}{th:TS}{np hpos pos:Pos}
theorem Vb(hex:X.ex=[])(j:X.stack=X.env::X.outer)(Z:X.env.frame=some X.env.locals)(hN:X.N.Nodup)(hi:X.N[i]? =some n)(hl:X.env.scope.names.lookup n=some .local)(hm:X.mg cn=some (.ref D))
  (hb:∀(pn:bh) (E:aR) (Ex:XK),Passes (bU X.prog X.w) (X.tried pn E) Ex->dw (X.tried pn E) body (tb pn E Ex))(hh:∀e:Addr,dw (X.l7 e) (b₀::suite) th)
  (hg:Gl X cn:=by rfl)(hdb:(cn==("__debug__":Str))=false:=by decide):
  PS X (.Try body [.ExceptHandler (some (.Name cn np)) (some n) (b₀::suite) hpos] [] [] pos) (XU X.K X.N.length i D tb th):=by
 intro ae s σ H Dn I h
 refine wpAny_Try_except ?_
 refine jK (hb (X.pn++ae) _ _ ?_ [] s σ H Dn (I.tried _) (h _ _)) (λf P q=> ?_) λe P q=>q
 .intro Zh σ' H1 V e s' I1 hx
  obtain⟨a,C,H',rfl,F,c,rfl,Q,QU⟩:=hx
  have y:Inv X ae σ' H1 V:=I1.k8 I.ok
  have F:gZ X.prog X.w X.stack H1 H' V s' a (.ref c):=F
  obtain⟨B,a0,kb,R,ar,fl⟩:=F.fl
  have P1:=fl
  rw[j] at fl
  refine wpAny_looks_onW (by rw[<-j];exact I.ok.frames) Z fl λh₄ g A=> ?_
  refine wpAny_landsW g λl d G=> ?_
  have S:gZ X.prog X.w X.stack H1 H' V {s' with heap:=l} a (.ref c):=F.move kb R ar P1 (by rw[j];exact d) (A.trans G)
  have J5:Inv X ae σ' H' {s' with heap:=l}:=y.zX S.os S.un S.ar S.bare λb z=>absurd z θ
  have LT:PySem.W.Looks (model X.prog X.w) l (typeOf (.ref a)) (.ref c):=by
   obtain⟨ob,J,hc⟩:=d.there
   exact hc▸(PySem.W.Looks.ld J).andThen .now
  refine wpAny_handleBy_cons (codeAny_handlers_test (tW (X:=X.l7 a) (J5.l7 a) hg hm ((PySem.W.exm_one (J5.e_) LT Q).here ?_) hdb)) (by intro q;cases q)
  refine codeAny_handlers_suite_as ?_
  refine lands_againW d λr t L=> ?_
  have M:gZ X.prog X.w X.stack H1 H' V {s' with heap:=r} a (.ref c):=S.move kb R ar (by rw[j];exact d) (by rw[j];exact t) L
  have J6:Inv X ae σ' H' {s' with heap:=r}:=y.zX M.os M.un M.ar M.bare λb z=>absurd z θ
  obtain⟨ob,J,T⟩:=t.there
  have J7:Inv X ae σ' (ax H' a (qG a c)) {s' with heap:=r}:=by
   refine J6.Yb (λb o q n=> ?_) ?_ (λx c' e=> ?_) (λp hp=> ?_) M.new ⟨ob,J,T⟩ ⟨ob,J⟩ λh1 h2 p k=> ?_
   .obtain⟨sl,e⟩:=y.base.any q n (by rw[hex];simp)
    exact M.ne e (y.base.free b o q n (by rw[hex];simp))
   .obtain⟨m,⟨o,_,_,e,_⟩,_⟩:=id y.loc
    exact M.ne e y.free
   .obtain⟨v,o,e,_⟩:=y.cell x c' e
    exact M.ne e (y.gv x c' (by assumption))
   .obtain⟨e,n,_⟩:=y.pin p hp
    exact M.ne e n
   .obtain⟨o,e,ec⟩:=p
    exact⟨o,k o e,ec⟩
  refine rC (X:=X.l7 a) (J7.l7 a) hN hi (.inl hl) (v:= .ref a) rfl (λU J8=> ?_) (.inr hl)
  refine jK (hh a ae U _ _ _ J8 (QU a σ' y.len F.new)) (λfl O q=> ?_) λe O z=>False.elim z
  cases fl with
  |next=>obtain⟨_,_,_,z⟩:=q;exact False.elim z
  |brk=>obtain⟨_,_,_,z⟩:=q;exact False.elim z
  |cont=>obtain⟨_,_,_,z⟩:=q;exact False.elim z
  |ret u=>
   obtain⟨v,σ2,H2,Y,rv,z⟩:=q
   have Y:Inv X ae σ2 H2 O:=Y.Ud I.ok
   obtain⟨m,hn,_⟩:=id Y.loc
   exact wpAny_nameGoes hl hn (by rw[I.ok.kind];rfl) λh' m' hn' hs=>⟨v,_,H2,Y.Mv hs hn',rv,z⟩
 .cases f with
  |next=>exact u7 (SP.k8 I.ok q)
  |brk=>exact SP.k8 I.ok q
  |cont=>exact SP.k8 I.ok q
  |ret u=>exact SP.k8 I.ok q
end
section
variable{P:Program}{w:World}{K:Frag}{mg:aA}{base:Heap}
def av(P:Program)(w:World)(K:Frag)(mg:aA)(base:Heap)(k:Nat)(x:Str)(ps:Ap)(sp:Sp):Prop:=
 ∃f fd,f9 P w K mg base (bU P w) k f fd ps sp/\Binds K fd ps []/\keepIn K (.ref f)=true/\mg x=some (.ref f)
theorem av.mono{j k:Nat}{x:Str}{ps:Ap}{sp:Sp}(F:av P w K mg base j x ps sp)(h:j<=k):av P w K mg base k x ps sp:=by
 obtain⟨f,fd,F,r⟩:=F;exact⟨f,fd,F.mono h,r⟩
theorem TopD.fnX{x:Str}{st:Stmt}{N ps:Ap}{k:Nat}{sp:Sp}(T:TopD K mg x st ps)(S:bq N ps (aK st))(len:∀vs H Q E,sp vs H Q E->vs.length=ps.length)
  (c:∀(f:Addr) (a:Value) (A:Around) (outer:Fh) (s:Shared) (H:Hp) (vs:Bn) (Q:VK) (E:XK),dW k (A.deeper (envOfC x (aK st) s.heap.objs.size f a))->sp vs H Q E->
   ∃t,dw (cR (bU P w) P w K mg base N x (aK st) f a A outer s H E) (ig st) t/\t {nx:=λ_ H'=>Q .aG H',rt:=Q} (start N vs) H):av P w K mg base (k+1) x ps sp:=by
 obtain⟨f,fd,F,b,m⟩:=T;have kp:=F.kp;obtain⟨i,j,kV,doc,pm,an,a,ct,g,rfl,lk,d⟩:=F.ex;exact⟨f,_,F_ lk d S len λA outer s H vs Q E h e=>c f a A outer s H vs Q E h e,b,kp,m⟩
structure lR(k:Nat)(A:Around):Prop where
 dp:A.depth+3*k+5<recursionLimit
 un:A.units+16*k+200<cLine
theorem lR.of{k:Nat}{A:Around}{h:Option Value}(r:dW k A):lR k (A.mark h):=⟨r.dp,r.un⟩
def qm(P:Program)(w:World)(K:Frag)(mg:aA)(base:Heap)(k:Nat)(x:Str)(ps:Ap)(sp:Sp):Prop:=
 ∃f fd,(∀vs H Q E,sp vs H Q E->vs.length=ps.length)/\(∀(A:Around) (outer:Fh) (s:Shared) (H:Hp) (args:Args) (us:BM) (vs:Bn) (Q:VK) (E:XK),lR k A->qk P w K mg base A outer s H->BindsTo s fd args (ps.zip us)->Vals vs us->sp vs H Q E->
  codeAny (model P w) A (.call (.ref f) args) (CR qh outer P w H s Q E) s)/\Binds K fd ps []/\keepIn K (.ref f)=true/\mg x=some (.ref f)
abbrev Cx.loud(X:Cx)(A:Around):Cx:={X with A:=A,calm:=false,xe:=λ_ _=>False}
theorem TopD.P4{x:Str}{st:Stmt}{N ps:Ap}{k:Nat}{sp:Sp}(T:TopD K mg x st ps)(S:bq N ps (aK st))(len:∀vs H Q E,sp vs H Q E->vs.length=ps.length)
  (g:∀(f:Addr) (c:Value) (A:Around) (outer:Fh) (s:Shared) (H:Hp) (vs:Bn) (Q:VK) (E:XK),lR k (A.deeper (envOfC x (aK st) s.heap.objs.size f c))->sp vs H Q E->
   ∃t,dw ((cR qh P w K mg base N x (aK st) f c {A with handled:=Option.none} outer s H E).loud (A.deeper (envOfC x (aK st) s.heap.objs.size f c))) (ig st) t/\t {nx:=λ_ H'=>Q .aG H',rt:=Q} (start N vs) H):qm P w K mg base (k+1) x ps sp:=by
 obtain⟨f,fd,F,b,m⟩:=T;have kp:=F.kp;obtain⟨oc,od,kV,doc,pm,an,c,ct,M,rfl,lk,l⟩:=F.ex;refine⟨f,_,len,λA outer s H args O vs Q E p d R r j=>?_,b,kp,m⟩;have hl:=len _ _ _ _ j;have G:K.In s.heap:=d.mod.o7.keeps λb o e=>(d.bs b o e).1;have lim:s.heap.NoLimit:=d.mod.nolimit.keeps λb o e=>(d.bs b o e).1;have h:∀y∈ps.zip O,(aK st).names.lookup y.1=some .local\/((aK st).names.lookup y.1=some .cell/\((cellsFrom (s.heap.objs.size+1) (aK st).names []).lookup y.1).isSome=true):=λ⟨n,v⟩ U=>by
  rcases S.par n (of_mem_zip U).1 with q|q
  .exact .inl q
  .exact .inr ⟨q,cellsFrom_some _ _ _ (.inl q)⟩
 refine codeAny_call_function (by have:=p.dp;omega) (G _ _ lk) rfl S.co S.gen rfl (codeRec_of G l) (R _ _ _ _ ?_);refine wpAny_newFunctionEnv_cells S.kind h λenv W B L=>?_;subst W;refine⟨lim.keeps L.toInCall.keep,codeAny_func ?_⟩;have C:lR k (A.deeper (envOfC x (aK st) s.heap.objs.size f c)):=⟨by have:=p.dp;show A.depth+1+3*k+5<_;omega,by have:=p.un;show A.units+3+16*k+200<_;omega⟩;obtain⟨t,X,Y⟩:=g f c A outer s H vs Q E C j;have Z:qk P w K mg base {A with handled:=Option.none} outer s H:=⟨d.frames,d.mod,d.bs,d.jU,d.iS,d.kJ,d.ar,d.bare⟩;have a:Inv (cR qh P w K mg base N x (aK st) f c {A with handled:=Option.none} outer s H E) [] (start N vs) H B:=GV S rfl Z hl r L;have I:Inv ((cR qh P w K mg base N x (aK st) f c {A with handled:=Option.none} outer s H E).loud (A.deeper (envOfC x (aK st) s.heap.objs.size f c))) [] (start N vs) H B:=
  ⟨⟨a.ok.mod,a.ok.kind,a.ok.glob,a.ok.blt,a.ok.above,a.ok.inj,a.ok.has,a.ok.oz,(λz=>nomatch z),Around.frames_deeper d.frames,a.ok.stk,a.ok.v8,a.ok.bs,a.ok.jU,a.ok.pC,a.ok.qH,a.ok.iS,a.ok.kJ⟩,a.os,a.bare,a.base,a.loc,a.cell,a.free,a.gv,a.pin,a.ar,a.len⟩
 refine jK (X [] B (start N vs) H _ I Y) (λfl s' i=>?_) λe s' i=>False.elim i;have fin:∀{σ':St} {H':Hp} {v:V} {u:Value},Inv ((cR qh P w K mg base N x (aK st) f c {A with handled:=Option.none} outer s H E).loud (A.deeper (envOfC x (aK st) s.heap.objs.size f c))) [] σ' H' s'->RelV v u->Q v H'->CE outer P w H s Q u s':=
  λ {σ' H' v u} J D q=>⟨v,H',J.os,J.bare,J.base,J.ar,D,q⟩
 cases fl with
 |ret u=>
  obtain⟨v,σ',H',J,D,q⟩:=i;exact fin J D q
 |next=>
  obtain⟨σ',H',J,q⟩:=i;exact fin (v:=V.aG) (u:=Value.none) J rfl q
 |brk=>
  obtain⟨_,_,_,q⟩:=i;exact False.elim q
 |cont=>
  obtain⟨_,_,_,q⟩:=i;exact False.elim q
end
section
variable{k:Nat}{x:Str}{ps:Ap}{sp:Sp}{e fe:Expr}{es:Dx}{t:TA}{tf:TE}{p pos:Pos}{E:XK}
theorem Um(F:av X.prog X.w X.K X.mg X.base k x ps sp)(d:dW k X.A)(g:Passes (bU X.prog X.w) X E)(h:PA X (e::es) t)(i:Gl X x:=by rfl)(a:(x==("__debug__":Str))=false:=by decide)
  (j:starEach (e::es) X.env=(false,eval e X.env)::starEach es X.env:=by rfl)(c:(backTo pos (starEach es X.env)).any (·.1)=false:=by rfl):
  PE X (.Call (.Name x p) (e::es) [] pos) (Cp sp [] E t):=by
 obtain⟨f,fd,F,b,kp,m⟩:=F;exact Ui F d i m kp b .nil g h a j c
theorem Uk(F:qm X.prog X.w X.K X.mg X.base k x ps sp)(n:lR k X.A)(o:PA X (e::es) t)(v:Gl X x:=by rfl)(g:(x==("__debug__":Str))=false:=by decide)
  (y:starEach (e::es) X.env=(false,eval e X.env)::starEach es X.env:=by rfl)(i:(backTo pos (starEach es X.env)).any (·.1)=false:=by rfl):
  PE X (.Call (.Name x p) (e::es) [] pos) (Cp sp [] E0 t):=by
 obtain⟨f,fd,len,F,b,kp,m⟩:=F;intro ae s σ H Q I h;refine lH (tW I v m ?_ g);refine callWith_K (h₀:=X.base) I.ok.mod.o7 kp (aN (o pos ae s σ H _ I h) λa j ⟨vs,H1,d,r,q⟩=>⟨d.e_,?_⟩) y i;have l:Vals (vs++[]) (a++[]):=r.append .nil;have hl:(a++[]).length=ps.length:=by rw[<-l.length];exact len _ _ _ _ q
 refine wpAny_call (p_ (F X.A X.stack j H1 ⟨a,[]⟩ (a++[]) (vs++[]) Q E0 n d.FO (b j a d.e_ hl) l q) λr s' c=>?_);cases r with
 |error e=>exact False.elim c
 |ok fl=>
  cases fl with
  |ret u=>exact d.after c
  |next=>exact False.elim c
  |brk=>exact False.elim c
  |cont=>exact False.elim c
def FnAt(X:Cx)(k:Nat)(v:V)(sp:Sp):Prop:=∃f fd ps,v=.ref f/\f9 X.prog X.w X.K X.mg X.base (bU X.prog X.w) k f fd ps sp/\Binds X.K fd ps []/\keepIn X.K (.ref f)=true
def Xu(X:Cx)(k:Nat)(E:XK)(tf:TE)(t:TA):TE:=λσ H Q=>tf σ H λv H1=>∃sp,FnAt X k v sp/\t σ H1 λvs H2=>sp vs H2 Q E
theorem Uj(d:PE X fe tf)(g:dW k X.A)(i:Passes (bU X.prog X.w) X E)(j:PA X (e::es) t)
  (hc:eval (.Call fe (e::es) [] pos) X.env=(do callWith pos (<-eval fe X.env) [] (backTo pos (starEach (e::es) X.env)) (backToKw pos (keywordEach [] X.env))):=by rfl)
  (l:starEach (e::es) X.env=(false,eval e X.env)::starEach es X.env:=by rfl)(a:(backTo pos (starEach es X.env)).any (·.1)=false:=by rfl):
  PE X (.Call fe (e::es) [] pos) (Xu X k E tf t):=by
 intro ae s σ H Q I h
 refine Call_ (aN (d ae s σ H _ I h) λu m ⟨v,H1,n,o,q⟩=> ?_) hc
 obtain⟨sp,⟨f,fd,ps,rfl,F,b,kp⟩,q⟩:=q
 cases o
 refine callWith_K (h₀:=X.base) I.ok.mod.o7 kp (aN (j pos ae m σ H1 _ n q) λx y ⟨vs,H2,c,r,p⟩=>⟨c.e_,?_⟩) l a
 exact Jc (lW:=[]) F g b .nil i c r (by rw[ko];exact p)
end
end L2
namespace SS
theorem Ub(t:SetTable)(n:Nat):(t.orStandIn n).led=t.led:=by
 unfold SetTable.orStandIn;split<;>rfl
theorem Uc(t:SetTable)(n:Nat)(h:t.plain=false):(t.orStandIn n).plain=false:=by
 unfold SetTable.orStandIn;split
 .exact h
 .rfl
theorem RY(t:SetTable)(es:Array (Int×Value))(h:Int)(x:Value):(layNew t es h x).2.1.led=t.led:=by
 unfold layNew;split
 .exact Ub _ _
 .rfl
theorem RZ(t:SetTable)(es:Array (Int×Value))(h:Int)(x:Value)(a:t.plain=false):(layNew t es h x).2.1.plain=false:=by
 unfold layNew;split
 .exact Uc _ _ a
 .rfl
theorem G9{mask finger moves:Nat}{led plain:Bool}{a:Array Int}{t:SetTable}{o:Array Nat}(h:SetTable.laid mask finger moves led plain a=some (t,o)):t.led=led/\t.plain=plain:=by
 unfold SetTable.laid at h;obtain⟨w,_,h⟩:=Option.bind_eq_some_iff.mp h;cases h;exact⟨rfl,rfl⟩
theorem Vy(t:SetTable)(es:Array (Int×Value))(n:Nat):(relayAll t es n).2.1.led=t.led:=by
 unfold relayAll;split
 .rename_i t' o e
  dsimp only;split
  .exact(G9 e).1
  .rfl
 .rfl
theorem Vz(t:SetTable)(es:Array (Int×Value))(n:Nat)(a:t.plain=false):(relayAll t es n).2.1.plain=false:=by
 unfold relayAll;split
 .rename_i t' o e
  dsimp only;split
  .exact(G9 e).2.trans a
  .rfl
 .rfl
def strOf(v:Value):Str:=match v with|.str x _=>x|_=>⟨#[]⟩
def fT(prog:Program)(w:World)(h:Heap)(a:Addr)(es:Array (Int×Value)):Prop:=
 ∃o ep t,h.get? a=some o/\o.ExactSet/\o.data=.set es ep t/\ElemsOf (PySem.strKind prog w) es.toList/\(es.toList.map λe=>strOf e.2).Nodup/\es.size<scanBound/\t.fits es.size=true/\
  t.led= !w.params.followText "set-order"/\(es.size≠0->t.plain=false)
variable{prog:Program}{w:World}{A:Around}{E:aR}{s:Shared}
theorem Aw{l:List (Int×Value)}(h:ElemsOf (PySem.strKind prog w) l){e:Int×Value}(a:e∈l):∃t,e.2=.str (strOf e.2) t:=by
 obtain⟨⟨k,b,_⟩,_⟩:=h e a;obtain⟨t,q⟩:=Value.isStrOf_shape b;exact⟨t,by rw[q];rfl⟩
theorem GX{e:Int×Value}{x:Str}(h:∃t,e.2=.str (strOf e.2) t):(PySem.strKind prog w).is x e.2=decide (strOf e.2=x):=by
 obtain⟨t,q⟩:=h;rw[q];show Value.isStrOf x (.str (strOf e.2) t)=decide (strOf (.str (strOf e.2) t)=x);by_cases a:strOf e.2=x
 .rw[dc (by rw[<-a];rfl),a]
  simp[Value.isStrOf]
 .rw[fh (by exact a)]
  simp only[Value.isStrOf];simpa[kr] using λz=>a (by first|exact z.symm|exact z)
theorem add{a:Addr}{es:Array (Int×Value)}{x:Str}{tk:Tok}{Q:Bool->Shared->Prop}(hS:fT prog w s.heap a es)(K:es.size+1<scanBound)
  (h:∀h' l b,SameBut a s.heap h'->fT prog w h' a l->(x∈es.toList.map (λe=>strOf e.2)->l=es)->(x∉es.toList.map (λe=>strOf e.2)->l.toList.Perm (es.toList++[((PySem.strKind prog w).hash x,.str x tk)]))->Q b {s with heap:=h'}):
  wpAny (model prog w) A (setAddHashed a (.str x tk) ((PySem.strKind prog w).hash x)) Q E s:=by
 obtain⟨o,ep,t,T,hex,hd,n,U,hb,hf,u,hpl⟩:=hS
 have C:(PySem.strKind prog w).is x (.str x tk)=true:=by show Value.isStrOf x (.str x tk)=true;simp[Value.isStrOf]
 have M:(Value.str x tk).scannable=true:=rfl
 unfold setAddHashed setAddHashedIn
 refine gn (ah (rX T hd hf ?_))
 dsimp only
 rw[byScan_of M hb n]
 simp only[↓reduceIte]
 unfold setAddByScan
 refine ah ?_
 refine ah (kj ?_)
 refine ah (wpAny_setScan_of C T hd hf n ?_)
 cases hr:List.findIdx? (λe=>(PySem.strKind prog w).is x e.2) es.toList with
 |some j=>
  dsimp only
  obtain⟨hj,V,_⟩:=List.findIdx?_eq_some_iff_getElem.mp hr
  have hin:x∈es.toList.map (λe=>strOf e.2):=by
   rw[GX (Aw n (lu hj))] at V
   exact aS.mpr ⟨_,lu hj,fY V⟩
  refine aF (aF ?_)
  have e:s={s with heap:=s.heap}:=by cases s;rfl
  rw[e]
  exact h s.heap es _ (SameBut.refl a s.heap) ⟨o,ep,t,T,hex,hd,n,U,hb,hf,u,hpl⟩ (λ_=>rfl) λz=>absurd hin z
 |none=>
  dsimp only
  have D:x∉es.toList.map (λe=>strOf e.2):=λz=>by
   obtain⟨e,he,q⟩:=aS.mp z
   have:=List.findIdx?_eq_none_iff.mp hr e he
   rw[GX (Aw n he),dc q] at this
   exact Bool.noConfusion this
  have QG:∀(b:Bool) {f:Shared} {F:Unit->Shared->Prop},F () f->wpAny (model prog w) A (match b with|true=>rule "set.scan.the-table-gave-way"|false=>pure ()) F E f:=
   λb f F r=>by cases b<;>first|exact aF r|exact kj r
  have d:=layNew_perm t es ((PySem.strKind prog w).hash x) (.str x tk)
  have k:=layNew_fits t es ((PySem.strKind prog w).hash x) (.str x tk)
  have B:=RY t es ((PySem.strKind prog w).hash x) (.str x tk)
  have W:=RZ t es ((PySem.strKind prog w).hash x) (.str x tk)
  generalize hL:layNew t es ((PySem.strKind prog w).hash x) (.str x tk)=L at d k B W ⊢
  obtain⟨c,t1,p,YU⟩:=L
  dsimp only at d k B W ⊢
  rw[Array.toList_push] at d
  have G:ElemsOf (PySem.strKind prog w) c.toList:=(n.push C M).perm d
  have X:((es.toList++[((PySem.strKind prog w).hash x,Value.str x tk)]).map λe=>strOf e.2).Nodup:=by
   rw[di]
   refine nK.mpr ⟨U,θ,λy hy z hz=> ?_⟩
   have hz':z=x:=by simpa[strOf] using hz
   rw[hz']
   rintro rfl
   exact D hy
  have H:(c.toList.map λe=>strOf e.2).Nodup:=(d.map _).nodup_iff.mpr X
  have Y:c.size=es.size+1:=by rw[<-gA,d.length_eq,dZ,gA];rfl
  have v:c.size<scanBound:=by rw[Y];exact K
  refine ah (QG _ ?_)
  have fin:∀{g:Bool->Sem Unit} {R:Option Bool->Shared->Prop},(∀(b:Bool) (f:Shared) (F:Unit->Shared->Prop),F () f->wpAny (model prog w) A (g b) F E f)->(∀h',Q true {s with heap:=h'}->R (some true) {s with heap:=h'})->
    ∀i:SetTable,i.fits c.size=true->i.led=t.led->i.plain=false->
    wpAny (model prog w) A (do
     storeSet a c i
     if (!p&&i.tooFull)=true then do
       g (relayAll i c (SetTable.grown c.size)).2.2
       storeSet a (relayAll i c (SetTable.grown c.size)).1 (relayAll i c (SetTable.grown c.size)).2.1
       pure (some true)
      else pure (some true)) R E s:=λ {g R} hg hR i hf2 Z hp2=>by
   have go:∀h' l,SameBut a s.heap h'->fT prog w h' a l->l.toList.Perm c.toList->R (some true) {s with heap:=h'}:=λh' l q1 q2 q3=>hR h' (h h' l true q1 q2 (λz=>absurd z D) λ_=>q3.trans d)
   refine ah (wpAny_storeSet_of T hd ?_ (zd v))
   have N:(s.heap.update a (Obj.putSet c i)).get? a=some {o with data:= .set c (ep+1) i}:=by
    have:=ku (Obj.putSet c i) T (by rw[putSet_of c i hd];rfl)
    rw[putSet_of c i hd] at this;exact this
   have I:=SameBut.update s.heap a (Obj.putSet c i)
   split
   .have J:=relayAll_perm i c (SetTable.grown c.size)
    have O:=relayAll_fits i c (SetTable.grown c.size)
    have P:=Vy i c (SetTable.grown c.size)
    have S:=Vz i c (SetTable.grown c.size) hp2
    generalize YW:relayAll i c (SetTable.grown c.size)=Rl at J O P S ⊢
    obtain⟨m,t3,YV⟩:=Rl
    dsimp only at J O P S ⊢
    have hsz:m.size=c.size:=by rw[<-gA,J.length_eq,gA]
    have hb2:m.size<scanBound:=by rw[hsz];exact v
    refine ah (hg _ _ _ ?_)
    refine ah (wpAny_storeSet_of N rfl ?_ (zd hb2))
    have QF:((s.heap.update a (Obj.putSet c i)).update a (Obj.putSet m t3)).get? a=some {o with data:= .set m (ep+1+1) t3}:=by
     have:=ku (Obj.putSet m t3) N (by rw[putSet_of (ep:=ep+1) (t:=i) m t3 rfl];rfl)
     rw[putSet_of (ep:=ep+1) (t:=i) m t3 rfl] at this;exact this
    refine aF (go _ m (I.trans (SameBut.update _ a _)) ⟨_,_,_,QF,hex,rfl,G.perm J,(J.map _).nodup_iff.mpr H,hb2,O,?_,λ_=>S⟩ J)
    rw[P,Z];exact u
   .exact aF (go _ c I ⟨_,_,_,N,hex,rfl,G,H,v,hf2,by rw[Z];exact u,λ_=>hp2⟩ .rfl)
  split
  .refine ah ?_
   rw[hashByValue_scannable 8 M]
   refine aF ?_
   simp only[show plainKind (Value.str x tk)=false from rfl,jM,gz]
   refine fin ?_ ?_ {t1 with plain:=false} (SetTable.fits_plain_off k) B rfl
   .intro b f F r;cases b<;>first|exact aF r|exact kj r
   .exact λh' r=>aF r
  .rename_i J
   refine ah (aF ?_)
   simp only[↓reduceIte]
   refine fin ?_ ?_ t1 k B (by simpa using J)
   .intro b f F r;cases b<;>first|exact aF r|exact kj r
   .exact λh' r=>aF r
abbrev names(es:Array (Int×Value)):Ap:=es.toList.map λe=>strOf e.2
theorem fT.keeps{prog:Program}{w:World}{h h':Heap}{a:Addr}{es:Array (Int×Value)}(S:fT prog w h a es)(k:∀o,h.get? a=some o->h'.get? a=some o):fT prog w h' a es:=by
 obtain⟨o,ep,t,b,r⟩:=S;exact⟨o,ep,t,k o b,r⟩
section
variable{prog:Program}{w:World}{A:Around}{R:Result->Shared->Prop}{I:Addr}{fp wr:D1}{G:Array GenState->Array GenState->Prop}{n:Nat}{P:Nat->Value->Prop}{St:Nat->Shared->Prop}
theorem loop(W:WalksS prog w A.in1 I fp wr G n P St)(S:Addr)(q:S∉fp)(val:Nat->Str)(r:∀i v,P i v->∃t,v=.str (val i) t)(m:n+1<scanBound):
  ∀(k i:Nat) (s:Shared) (es:Array (Int×Value)),n - i=k->i<=n->St i s->fT prog w s.heap S es->es.size<=i->(∀x,x∈names es↔∃j,j<i/\val j=x)->
   (∀s' c,Moved (S::wr) G s s'->fT prog w s'.heap S c->c.size<=n->(∀x,x∈names c↔∃j,j<n/\val j=x)->R (.ok (.ret .none)) s')->
   codeAny (model prog w) A (.builtin "set.update.loop" ⟨[.ref S,.ref I],[]⟩) R s:=by
 have u:S∉wr:=λh=>q (W.sub _ h);have f:∀b∈wr,b∈S::wr:=λb m=>bz _ m;intro k;induction k with
 |zero=>
  intro i s es hk hi g M hsz d N;have O:i=n:=ω
  subst O;refine i9 F.entry_set_update_loop ?_;rw[jL CU _];show wpAny _ A.in1 (pyNext (.ref I)>>=_) _ _ s;refine ah (W.done s _ _ g λs' B=>?_);show wpAny _ A.in1 (ret Value.none) _ _ s';exact aF (N s' es (B.mono f) (M.keeps λo Q=>B.heap S _ u Q) hsz d)
 |succ k ih=>
  intro i s es hk hi g M hsz d N;have C:i<n:=ω
  refine i9 F.entry_set_update_loop ?_;rw[jL CU _];show wpAny _ A.in1 (pyNext (.ref I)>>=_) _ _ s;refine ah (W.item i s _ _ C g λv s' hP D B=>?_);obtain⟨t,rfl⟩:=r i v hP;have T:fT prog w s'.heap S es:=M.keeps λo Q=>B.heap S _ u Q;show wpAny _ A.in1 (holding [Value.str (val i) t] (setAdd S (.str (val i) t))>>=_) _ _ s';refine ah (gn ?_);unfold setAdd;refine gn ?_;refine ah ((PySem.strKind prog w).pyHash (k:=val i) (by show Value.isStrOf (val i) (.str (val i) t)=true;simp[Value.isStrOf]) ?_);refine add (s:={s' with toks:=s'.toks+1}) T ω λh' c b E U Z q2=>?_;have H:c.size<=i+1:=by
   by_cases p:val i∈es.toList.map (λe=>strOf e.2)
   .rw[Z p];omega
   .rw[<-gA,(q2 p).length_eq,dZ,gA]
    simp only[iw,length_nil];omega
  have l:∀x,x∈names c↔∃j,j<i+1/\val j=x:=λx=>by
   have e1:x∈names c↔x∈names es\/x=val i:=by
    by_cases p:val i∈es.toList.map (λe=>strOf e.2)
    .rw[Z p]
     exact⟨.inl,λz=>z.elim id λe=>e▸p⟩
    .have hp:=((q2 p).map λe=>strOf e.2).mem_iff (a:=x)
     rw[di,cu] at hp;refine hp.trans ⟨λz=>z.imp id λy=>by simpa[strOf] using y,λz=>z.imp id λy=>by simpa[strOf] using y⟩
   rw[e1,d x];constructor
   .rintro (⟨j,hj,e⟩|rfl)
    .exact⟨j,ω,e⟩
    .exact⟨i,ω,rfl⟩
   .rintro ⟨j,hj,e⟩
    by_cases V:j=i
    .exact .inr (by rw[<-e,V])
    .exact .inl ⟨j,ω,e⟩
  refine aF ⟨kh CU _,ih (i+1) _ c ω C (W.frame _ s' _ _ D (nH _) λb m o e=>?_) U H l λX J K L hz Y=>?_⟩
  .rw[E.2 b (λh:b=S=>q (by rw[<-h];exact m))];exact e
  .refine N X J (Moved.trans W.gtrans ((B.mono f).then_heap (nH _) λb o m e=>?_) K) L hz Y
   rw[E.2 b (λh:b=S=>m (by rw[h];exact bA))];exact e
end
abbrev R1(w:World):Bool:= !w.params.followText "set-order"
abbrev jZ(w:World):Obj:={cls:=.type "set",dict:=none,data:=.set #[] 0 (.fresh 0 0 (R1 w))}
theorem code_set_new(a:Value){Q₁:aR}(h:Q₁ (.ref s.heap.objs.size) {s with heap:=s.heap.push (jZ w)}):
  codeAny (model prog w) A (.call (.builtin "set.__new__") ⟨[.type "set",a],[]⟩) (wants Q₁ E) s:=by
 refine codeAny_of_tree ?_;show wpAny _ A.in1 (do checkBuiltinCall "set.__new__" ⟨[.type "set",a],[]⟩;again (.builtin "set.__new__" ⟨[.type "set",a],[]⟩)) _ _ s;refine ah (wpAny_of_eq (PySem.F.newCall_set_1 a) (aF ⟨kh PySem.F.plain_set_new _,i9 PySem.F.entry_set_new ?_⟩));rw[jL PySem.F.plain_set_new _];unfold Builtin.«set.__new__» Builtin.Frozenset.newClass;have b:=sub_set_self;obtain⟨c,g,d,tk,os⟩:=s;dsimp only;wp_walk;refine wpAny_askSetting (aF ?_);dsimp only;simp only[newObj];refine ah (wpAny_alloc (aF ?_));exact aF h
theorem fT.fresh{h:Heap}{a:Addr}(b:h.get? a=some (jZ w)):fT prog w h a #[]:=
 ⟨_,_,_,b,⟨rfl,rfl,rfl⟩,rfl,λe c=>by simp at c,θ,δ,by rfl,rfl,λz=>absurd rfl z⟩
theorem MK{l:Addr}{items:Array Value}{val:Nat->Str}{Q:aR}
  (hh:A.handled=none)(hl:s.heap.IsList l items)(hi:∀(i:Nat) (v:Value),items[i]? =some v->∃t:Tok,v=Value.str (val i) t)(J:items.size+1<scanBound)
  (h:∀(h':Heap) (tk:Nat) (es:Array (Int×Value)),fT prog w h' s.heap.objs.size es->es.size<=items.size->(∀x,x∈names es↔∃j,j<items.size/\val j=x)->
   (∀b o,b<s.heap.objs.size->s.heap.get? b=some o->h'.get? b=some o)->Q (.ref s.heap.objs.size) {s with heap:=h',toks:=tk}):
  wpAny (model prog w) A (call (.type "set") [.ref l]) Q E s:=by
 obtain⟨c,tl,Z⟩:=nV.mro
 have L:=nV.made
 have hsub:=nV.sub
 refine wpAny_call (codeAny_of_tree ?_)
 show wpAny _ _ (callAny (.type "set") _) _ _ _
 refine aF ⟨Code.quiet_builtin _ η,i9 PySem.F.entry_type_call ?_⟩
 rw[Around.under_plain (weight_type_call_type "set" [.ref l] []) rfl]
 have h1:=nV.notType
 have h2:=nV.canCreate
 have hct:=PySem.F.typeCall_set_1 (.ref l)
 repeat (any_goals (first|assumption|wp_step))
 refine p_ (code_set_new (.ref l) (E:=E) (Q₁:=λobj f=>obj= .ref s.heap.objs.size/\f={s with heap:=s.heap.push (jZ w)}) ⟨rfl,rfl⟩) λr f M=> ?_
 cases r with
 |error e=>exact M
 |ok fl=>
  cases fl with
  |ret obj=>
   obtain⟨rfl,rfl⟩:=M
   have hS:(s.heap.push (jZ w)).get? s.heap.objs.size=some (jZ w):=cy _ rfl
   have hT:Shared.TypeIs {s with heap:=s.heap.push (jZ w)} (.ref s.heap.objs.size) "set":=⟨_,hS,rfl⟩
   have hli:=nV.init.lookup
   have hbi:=nV.init.bind (.ref s.heap.objs.size)
   repeat (any_goals (first|assumption|wp_step))
   refine p_ (C5 (R:=wants (λr g=>r= .none/\∃h' tk es,g={s with heap:=h',toks:=tk}/\
     fT prog w h' s.heap.objs.size es/\es.size<=items.size/\(∀x,x∈names es↔∃j,j<items.size/\val j=x)/\
     (∀b o,b<s.heap.objs.size->s.heap.get? b=some o->h'.get? b=some o)) E) nV.init.plain PySem.F.entry_set_init (check_set_init_1 hT ?_)) λu g a=> ?_
   .obtain⟨ol,y,B,nl,C⟩:=hl
    obtain⟨Zg,k,N,d⟩:=ol
    simp only at B C
    subst B;subst C
    have D:(s.heap.push (jZ w)).get? l=some {cls:= .type "list",dict:=k,data:= .seq items nl,slots:=d}:=bu _ y
    have Y4:=PySem.F.sub_list_set
    have Y3:=PySem.F.sub_list_frozenset
    have hne:(Value.type "list" ==Value.type "dict")=false:=δ
    have G:(s.heap.push (jZ w)).IsList l items:=⟨_,D,rfl,nl,rfl⟩
    unfold Builtin.«set.__init__» noKeywords Builtin.Frozenset.updateFrom
    generalize O:pyIter=PI
    wp_walk
    subst O
    refine pW G ?_
    refine ah (wpAny_runValue ?_)
    have H:l<s.heap.objs.size:=aW y
    have P:A.in1.in1.in1.handled=none:=by simp[hh]
    have I:l≠(s.heap.push (jZ w)).objs.size:=by
     rw[fB];exact bJ (gm H)
    have S:s.heap.objs.size∉[(s.heap.push (jZ w)).objs.size,l]:=by
     rw[fB];simp only[bx,bS,gB,gC,not_or]
     exact⟨bJ (kc _),kg H⟩
    refine loop ((Walks.list P _ l I items).toS) s.heap.objs.size S val (λi v hv=>hi i v hv) J (items.size - 0) 0 _ #[] ω (cA _)
     ⟨⟨_,cy _ rfl,rfl,rfl⟩,(G.push _)⟩ ?tM (aJ _) (λx=>⟨λz=>by simp[names] at z,λ⟨j,hj,_⟩=>absurd hj (Nat.not_lt_zero _)⟩) ?hR
    case tM=>exact fT.fresh (bu _ hS)
    case hR=>
     intro s' T K m n p
     obtain⟨h',g',d',U,V⟩:=s'
     have eg:g'=s.gens:=K.gens
     have ed:d'=s.drawn:=K.drawn
     have eo:V=s.os:=K.os
     subst eg;subst ed;subst eo
     show wpAny _ _ _ _ _ _
     refine aF ?_
     show wpAny _ _ (ret Value.none) _ _ _
     refine aF ⟨rfl,h',U,T,rfl,m,n,p,λb o J e=> ?_⟩
     have W:b≠s.heap.objs.size:=bJ J
     have X:b≠(s.heap.push (jZ w)).objs.size:=by
      rw[fB];exact bJ (gm J)
     exact K.heap b o (by simp only[bx,bS,gB,gC,not_or];exact⟨W,X⟩) (bu _ (bu _ e))
   .cases u with
    |error e=>exact a
    |ok q=>
     cases q with
     |ret r=>
      obtain⟨rfl,h',tk,es,rfl,m,n,p,Y⟩:=a
      repeat (any_goals (first|assumption|wp_step))
      exact h _ _ es m n p Y
     |_=>exact a.elim
  |_=>exact M.elim
theorem KC:Slot "set" "__iter__" "set.__iter__":=
 .of (owner:="set") (n:="__iter__") (by rw[mO,mR];kernel_rfl) η η η
  (by first|exact .inl η|exact .inr η) (by rw[isSubtype_type];kernel_rfl)
theorem slot_next:Slot "set_iterator" "__next__" "set_iterator.__next__":=
 .of (owner:="set_iterator") (n:="__next__") (by rw[mO,mR];kernel_rfl) η η η
  (by first|exact .inl η|exact .inr η) (by rw[isSubtype_type];kernel_rfl)
theorem KD:Slot "set_iterator" "__iter__" "set_iterator.__iter__":=
 .of (owner:="set_iterator") (n:="__iter__") (by rw[mO,mR];kernel_rfl) η η η
  (by first|exact .inl η|exact .inr η) (by rw[isSubtype_type];kernel_rfl)
theorem Ox:entryFor table "set.__iter__"=some Builtin.«frozenset.__iter__»:=
 entryFor_alias (id':="frozenset.__iter__") (by kernel_rfl) (by first|rfl|decide+kernel) η (by kernel_rfl)
theorem entry_next:entryFor table "set_iterator.__next__"=some Builtin.«set_iterator.__next__»:=entryFor_of_fast (by kernel_rfl)
theorem Ml(a:Value):argsOk "set.__iter__" ⟨[a],[]⟩:=by unfold argsOk;kernel_rfl
theorem args_next(a:Value):argsOk "set_iterator.__next__" ⟨[a],[]⟩:=by unfold argsOk;kernel_rfl
theorem YE{M:Model}{A:Around}{E:aR}{s:Shared}{src:Source}{n:Nat}{Q:Nat->Shared->Prop}(a:n≠0)(h:∀i d,i<n->Q i {s with drawn:=d}):wpAny M A (choose src n) Q E s:=λb p _=>by
 unfold choose;rw[Sem.wp_choose];exact⟨a,h _ _ (Nat.mod_lt _ (Nat.pos_of_ne_zero a))⟩
theorem yd{α:Type}:∀(xs:List α) (i:Nat) (x:α),xs[i]?=some x->xs.Perm (x::xs.eraseIdx i)
 |[],i,x,h=>by simp at h
 |y::r,0,x,h=>by
  simp at h;subst h;simp
 |y::r,i+1,x,h=>by
  simp only[CZ] at h;have:=yd r i x h;simp only[List.eraseIdx_cons_succ];exact(this.cons y).trans (Perm.swap x y _)
section
variable{M:Model}{A:Around}{E:aR}{s:Shared}
theorem Fz{α:Type}:∀(n:Nat) (xs:List α) (s:Shared) (Q:List α->Shared->Prop),n=xs.length->(∀ys d,ys.Perm xs->Q ys {s with drawn:=d})->wpAny M A (drawOrder n xs) Q E s
 |0,xs,s,Q,a,h=>by
  cases xs with
  |nil=>unfold drawOrder;exact aF (h [] s.drawn .nil)
  |cons x r=>simp at a
 |n+1,[],s,Q,a,h=>by simp at a
 |n+1,x::r,s,Q,a,h=>by
  unfold drawOrder;refine ah (YE θ λi d hi=>?_);have e:(x::r)[i]?=some ((x::r)[i]'hi):=a_ hi;rw[e];dsimp only;have b:=yd (x::r) i _ e;refine ah (Fz n _ _ _ ?_ λys d' c=>aF ?_)
  .have:=b.length_eq
   simp only[iw] at this a ⊢;omega
  .exact h _ d' ((c.cons _).trans b.symm)
end
theorem Ik{α:Type}(next:Nat->Nat):∀(fuel k:Nat) (left:List α) (out:Array α),fuel=left.length->(pickOrder.go next fuel k left out).toList.Perm (out.toList++left)
 |0,k,left,out,h=>by
  cases left with
  |nil=>unfold pickOrder.go;simp
  |cons x r=>simp at h
 |fuel+1,k,[],out,h=>by simp at h
 |fuel+1,k,x::r,out,h=>by
  unfold pickOrder.go;have hi:next k%(x::r).length<(x::r).length:=Nat.mod_lt _ θ;have e:(x::r)[next k%(x::r).length]?=some ((x::r)[next k%(x::r).length]'hi):=a_ hi;rw[e];dsimp only;have a:=yd (x::r) _ _ e;refine(Ik next fuel (k+1) _ _ ?_).trans ?_
  .have:=a.length_eq
   simp only[iw] at this h ⊢;omega
  .rw[Array.toList_push,nR]
   exact Perm.append_left _ a.symm
theorem UP{α:Type}(next:Nat->Nat)(xs:Array α):(pickOrder next xs).toList.Perm xs.toList:=by
 unfold pickOrder;exact(Ik next xs.size 0 xs.toList #[] θ).trans θ
def gG(h:Heap)(it a:Addr)(first:Value)(i n ep:Nat):Prop:=∃o,h.get? it=some o/\o.cls=.type "set_iterator"/\o.data=.fields #[first,.int i 0,.ref a,.int n 0,.int ep 0]
def jt(h:Heap)(a:Addr)(es:Array (Int×Value))(ep:Nat)(t:SetTable):Prop:=∃o,h.get? a=some o/\o.data=.set es ep t/\t.fits es.size=true
section
variable{it a:Addr}{es:Array (Int×Value)}{ep:Nat}{t:SetTable}
theorem gG.typeIs{first:Value}{i n:Nat}(h:gG s.heap it a first i n ep):s.TypeIs (.ref it) "set_iterator":=by
 obtain⟨o,h1,h2,_⟩:=h;exact⟨o,h1,h2⟩
theorem gG.put{first v:Value}{i n k:Nat}{h:Heap}(x:gG h it a first i n ep)(o:Obj)(b:h.get? it=some o):(h.update it (Obj.mapFields (·.setIfInBounds k v))).get? it=some (o.mapFields (·.setIfInBounds k v)):=by
 obtain⟨o',h1,h2,c⟩:=x;rw[h1] at b;cases b;exact ku _ h1 (C3 (mP c _))
theorem HJ{slot:Int}{i:Nat}{x:Value}{nx:Nat}{Q:Option Value->Shared->Prop}(hi:gG s.heap it a (.int slot 0) i es.size ep)(f:jt s.heap a es ep t)
  (g:∀(A:Around) (Q:Option (Value×Nat)->Shared->Prop) (E:aR),Q (some (x,nx)) s->wpAny (model prog w) A (setNext a slot.toNat i ep) Q E s)
  (h:∀h',gG h' it a (.int nx 0) (i+1) es.size ep->SameBut it s.heap h'->Q (some x) {s with heap:=h'}):wpAny (model prog w) A (pyNext (.ref it)) Q E s:=by
 obtain⟨o,c,hc,hd⟩:=id hi
 obtain⟨os,d,e,j⟩:=f
 unfold pyNext
 refine ah (nL (nM (name:=Str.ofString "__next__") hi.typeIs slot_next (jo slot_next hi.typeIs entry_next ?_ (args_next _))))
 show wpAny _ _ (fieldsOf (.ref it)>>=_) _ _ s
 refine ah (yV c hd ?_)
 show wpAny _ _ (setEntries a>>=_) _ _ s
 refine ah (u9 d e j ?_)
 simp only[nS,jM,gz]
 refine ah (g _ _ _ ?_)
 dsimp only
 refine ah (rW c hd θ ?_)
 have b:=hi.put (k:=0) (v:=rawInt nx) o c
 refine ah (rW b (mP hd _) θ (aF ⟨x,rfl,aF (h _ ?_ ((SameBut.update ..).trans (SameBut.update ..)))⟩))
 refine⟨_,ku _ b (C3 (mP (mP hd _) _)),(Obj.cls_mapFields ..).trans ((Obj.cls_mapFields ..).trans hc),?_⟩
 rw[mP (mP hd _)]
 simp[rawInt]
end
theorem Oz:entryFor table "set_iterator.__iter__"=some Builtin.«dict_keyiterator.__iter__»:=
 entryFor_alias (id':="dict_keyiterator.__iter__") (by kernel_rfl) (by first|rfl|decide+kernel) η (by kernel_rfl)
theorem Mm(a:Value):argsOk "set_iterator.__iter__" ⟨[a],[]⟩:=by unfold argsOk;kernel_rfl
section
variable{it a:Addr}{es:Array (Int×Value)}{ep:Nat}{t:SetTable}
theorem Bf{first:Value}{i n:Nat}{Q:aR}(hi:gG s.heap it a first i n ep)(h:Q (.ref it) s):wpAny (model prog w) A (pyIter (.ref it)) Q E s:=by
 refine wpAny_pyIter_slot hi.typeIs KD (jo KD hi.typeIs Oz ?_ (Mm _));show wpAny _ _ (ret (.ref it)) _ _ s;exact aF ⟨_,rfl,"set_iterator",_,hi.typeIs,slot_next.lookup,h⟩
theorem FJ{slot:Int}{i:Nat}{Q:Option Value->Shared->Prop}(f:A.handled=none)(hi:gG s.heap it a (.int slot 0) i es.size ep)(g:jt s.heap a es ep t)
  (h:∀(A:Around) (Q:Option (Value×Nat)->Shared->Prop) (E:aR),Q none s->wpAny (model prog w) A (setNext a slot.toNat i ep) Q E s)
  (j:∀h',ExtBut it s.heap h'->Q none {s with heap:=h'}):wpAny (model prog w) A (pyNext (.ref it)) Q E s:=by
 obtain⟨o,e,hc,hd⟩:=id hi
 obtain⟨os,c,d,k⟩:=g
 unfold pyNext
 refine ah (nL (nM (name:=Str.ofString "__next__") hi.typeIs slot_next (jo slot_next hi.typeIs entry_next ?_ (args_next _))))
 show wpAny _ _ (fieldsOf (.ref it)>>=_) _ _ s
 refine ah (yV e hd ?_)
 show wpAny _ _ (setEntries a>>=_) _ _ s
 refine ah (u9 c d k ?_)
 simp only[nS,jM,gz]
 refine ah (h _ _ _ ?_)
 dsimp only
 refine ah (rW e hd θ ?_)
 show wpAny _ _ (newExc (.type "StopIteration") []>>=_) _ _ _
 refine ah ?_
 simp only[newExc,newTuple]
 refine ah (gD ?_ (by size_fits))
 refine ah (m:=firstArgMember _ _) (wpAny_of_eq (a:=Value.none) (by first|rfl|(simp only[firstArgMember];rfl)) ?_)
 refine gD ?_ (by size_fits)
 simp only[raiseNew]
 refine ah (wpAny_handled ?_)
 rw[show A.in1.handled=none from f]
 refine ah (aF (wpAny_throw ?_))
 refine ah (yW (T:="StopIteration") (b:=true) ⟨_,cy _ rfl,rfl⟩ isSubtype_stop ?_)
 exact aF (j _ (((SameBut.update ..).extBut.push _).push _))
theorem S_{d:Addr}{ps:B2}{i p:Nat}{h0:Int}{x:Value}{Q:Option Value->Shared->Prop}(hi:gG s.heap it a (.ref d) i es.size ep)(k:jt s.heap a es ep t)
  (l:∃o n,s.heap.get? d=some o/\o.data= .seq ((ps.map λ(i:Nat)=>rawInt i).toArray) n)(m:ps[i]? =some p)(q:es[p]? =some (h0,x))
  (r:∀h',gG h' it a (.ref d) (i+1) es.size ep->SameBut it s.heap h'->Q (some x) {s with heap:=h'}):wpAny (model prog w) A (pyNext (.ref it)) Q E s:=by
 obtain⟨o,f,hc,hd⟩:=id hi
 obtain⟨os,b,c,j⟩:=k
 obtain⟨u,v,g,h⟩:=l
 unfold pyNext
 refine ah (nL (nM (name:=Str.ofString "__next__") hi.typeIs slot_next (jo slot_next hi.typeIs entry_next ?_ (args_next _))))
 show wpAny _ _ (fieldsOf (.ref it)>>=_) _ _ s
 refine ah (yV f hd ?_)
 show wpAny _ _ (setEntries a>>=_) _ _ s
 refine ah (u9 b c j ?_)
 simp only[nS,jM,gz]
 refine ah (rV g h ?_)
 have e:((ps.map λ(i:Nat)=>rawInt i).toArray)[((i:Int)).toNat]? =some (Value.int (p:Int) 0):=by
  simp[m,rawInt]
 dsimp only
 rw[e]
 dsimp only
 refine ah ?_
 unfold setNextDrawn
 refine ah (rX b c j ?_)
 dsimp only
 simp only[rR,nS,jM,gz]
 rw[q]
 refine aF ?_
 refine ah (rW f hd θ (aF ⟨x,rfl,aF (r _ ?_ (SameBut.update ..))⟩))
 refine⟨_,ku _ f (C3 (mP hd _)),(Obj.cls_mapFields ..).trans hc,?_⟩
 rw[mP hd]
 simp[rawInt]
theorem Ov{l:Addr}{ps:B2}{i:Nat}{Q:Option Value->Shared->Prop}(p:A.handled=none)(hi:gG s.heap it a (.ref l) i es.size ep)(q:jt s.heap a es ep t)
  (r:∃o n,s.heap.get? l=some o/\o.data= .seq ((ps.map λ(i:Nat)=>rawInt i).toArray) n)(u:ps[i]? =none)
  (x:∀h',ExtBut it s.heap h'->Q none {s with heap:=h'}):wpAny (model prog w) A (pyNext (.ref it)) Q E s:=by
 obtain⟨o,c,hc,hd⟩:=id hi
 obtain⟨os,d,f,y⟩:=q
 obtain⟨z,B,g,h⟩:=r
 unfold pyNext
 refine ah (nL (nM (name:=Str.ofString "__next__") hi.typeIs slot_next (jo slot_next hi.typeIs entry_next ?_ (args_next _))))
 show wpAny _ _ (fieldsOf (.ref it)>>=_) _ _ s
 refine ah (yV c hd ?_)
 show wpAny _ _ (setEntries a>>=_) _ _ s
 refine ah (u9 d f y ?_)
 simp only[nS,jM,gz]
 refine ah (rV g h ?_)
 have e:((ps.map λ(i:Nat)=>rawInt i).toArray)[((i:Int)).toNat]? =none:=by
  simp only[rR,List.getElem?_toArray,bM,u,Option.map_none]
 dsimp only
 rw[e]
 dsimp only
 refine ah (rW c hd θ ?_)
 have j:=hi.put (k:=0) (v:=rawInt 0) o c
 refine ah (rW j (mP hd _) θ ?_)
 show wpAny _ _ (newExc (.type "StopIteration") []>>=_) _ _ _
 refine ah ?_
 simp only[newExc,newTuple]
 refine ah (gD ?_ (by size_fits))
 refine ah (m:=firstArgMember _ _) (wpAny_of_eq (a:=Value.none) (by first|rfl|(simp only[firstArgMember];rfl)) ?_)
 refine gD ?_ (by size_fits)
 simp only[raiseNew]
 refine ah (wpAny_handled ?_)
 rw[show A.in1.handled=none from p]
 refine ah (aF (wpAny_throw ?_))
 refine ah (yW (T:="StopIteration") (b:=true) ⟨_,cy _ rfl,rfl⟩ isSubtype_stop ?_)
 exact aF (x _ ((((SameBut.update ..).trans (SameBut.update ..)).extBut.push _).push _))
theorem vH{Q:Bool->Shared->Prop}(h:Q (w.params.followText "set-order") s):wpAny (model prog w) A setsByText Q E s:=by
 unfold setsByText;exact ah (wpAny_askSetting (aF h))
theorem jt.keep{h h':Heap}(x:jt h a es ep t)(k:∀o,h.get? a=some o->h'.get? a=some o):jt h' a es ep t:=by
 obtain⟨o,e,r⟩:=x;exact⟨o,k o e,r⟩
theorem gG.keep{h h':Heap}{first:Value}{i n:Nat}(x:gG h it a first i n ep)(k:∀o,h.get? it=some o->h'.get? it=some o):gG h' it a first i n ep:=by
 obtain⟨o,e,r⟩:=x;exact⟨o,k o e,r⟩
theorem nextT{slot i:Nat}{Q:Option (Value×Nat)->Shared->Prop}(d:w.params.followText "set-order"=true)(g:jt s.heap a es ep t)
  (h:Q (((pickOrder (w.params.setOrder a ep) es)[i]?).map λe=>(e.2,slot)) s):wpAny (model prog w) A (setNext a slot i ep) Q E s:=by
 obtain⟨os,b,c,f⟩:=g;unfold setNext;refine ah (rX b c f ?_);dsimp only;refine ah (vH ?_);rw[d,aC rfl];simp only[nS,jM,gz];refine ah ?_;unfold setWalk;refine ah (rX b c f ?_);dsimp only;refine ah (vH ?_);rw[d,aC rfl];exact ah (wpAny_askSetting (aF (aF h)))
theorem YD(p:w.params.followText "set-order"=true)(r:A.handled=none)(l:a≠it):
  Walks prog w A it [it,a] [it] ((pickOrder (w.params.setOrder a ep) es).toList.map (·.2)).length (λi v=>((pickOrder (w.params.setOrder a ep) es).toList.map (·.2))[i]? =some v) (λi h=>gG h it a (.int 0 0) i es.size ep/\jt h a es ep t) where
 sub:=λb d=>by simp at d;simp[d]
 frame:=λ_ _ _ st q=>⟨st.1.keep λo e=>q it θ o e,st.2.keep λo e=>q a θ o e⟩
 item:=λi s Q E hi st f=>by
  have c:i<(pickOrder (w.params.setOrder a ep) es).size:=by simpa using hi
  have k:(pickOrder (w.params.setOrder a ep) es)[i]? =some ((pickOrder (w.params.setOrder a ep) es)[i]'c):=gV c
  refine HJ (slot:=0) (x:=((pickOrder (w.params.setOrder a ep) es)[i]'c).2) (nx:=0) st.1 st.2 (λA' u y m=>nextT p st.2 (by rw[k];exact m)) λh' g j=> ?_
  refine f _ h' s.toks ?_ ⟨g,st.2.keep λo e=>(j.2 a l).trans e⟩ λb o d e=>(j.2 b λz=>d (by simp[z])).trans e
  rw[bM,nG,k];rfl
 done:=λs Q E st f=>by
  have k:(pickOrder (w.params.setOrder a ep) es)[((pickOrder (w.params.setOrder a ep) es).toList.map (·.2)).length]? =none:=θ
  exact FJ (slot:=0) r st.1 st.2 (λA' u y m=>nextT p st.2 (by rw[k];exact m)) λh' n=>f h' s.toks λb o d e=>n b o (λz=>d (by simp[z])) e
 self:=λ_ _ _ _ st f=>Bf st.1 f
theorem YB{g:Addr}{ps:B2}(D:A.handled=none)(m:a≠it)(q:g≠it)(u:ps.Perm (range es.size)):
  Walks prog w A it [it,a,g] [it] (ps.map λp=>((es[p]?).getD (0,.none)).2).length (λi v=>(ps.map λp=>((es[p]?).getD (0,.none)).2)[i]? =some v)
   (λi h=>gG h it a (.ref g) i es.size ep/\jt h a es ep t/\∃o n,h.get? g=some o/\o.data= .seq ((ps.map λ(i:Nat)=>rawInt i).toArray) n) where
 sub:=λb j=>by simp at j;simp[j]
 frame:=λ_ _ _ st x=>⟨st.1.keep λo e=>x it θ o e,st.2.1.keep λo e=>x a θ o e,by obtain⟨o,n,e,r⟩:=st.2.2;exact⟨o,n,x g θ o e,r⟩⟩
 item:=λi s Q E hi st k=>by
  have c:i<ps.length:=by simpa using hi
  have B:ps[i]? =some (ps[i]'c):=a_ c
  have d:(ps[i]'c)<es.size:=mem_range.mp (u.mem_iff.mp (lu c))
  have C:es[ps[i]'c]? =some ((es[ps[i]'c]'d).1,(es[ps[i]'c]'d).2):=gV d
  refine S_ st.1 st.2.1 st.2.2 B C λh' l f=> ?_
  refine k _ h' s.toks ?_ ⟨l,st.2.1.keep λo e=>(f.2 a m).trans e,by obtain⟨o,n,e,r⟩:=st.2.2;exact⟨o,n,(f.2 g q).trans e,r⟩⟩ λb o j e=>(f.2 b λz=>j (by simp[z])).trans e
  rw[bM,B]
  simp only[map_some,C,getD_some]
 done:=λs Q E st k=>by
  exact Ov D st.1 st.2.1 st.2.2 θ λh' y=>k h' s.toks λb o j e=>y b o (λz=>j (by simp[z])) e
 self:=λ_ _ _ _ st k=>Bf st.1 k
theorem HH{slot i:Nat}{Q:Option (Value×Nat)->Shared->Prop}(d:w.params.followText "set-order"=false)(hl:t.led=true)(hz:es.size<=1)(e:jt s.heap a es ep t)
  (h:Q (match es[SetTable.below t.place slot]?,t.place[SetTable.below t.place slot]? with|some (_,x),some j=>some (x,j+1)|_,_=>none) s):wpAny (model prog w) A (setNext a slot i ep) Q E s:=by
 obtain⟨os,b,c,f⟩:=e;unfold setNext;refine ah (rX b c f ?_);dsimp only;refine ah (vH ?_);rw[d,ay δ];show wpAny _ _ (if (!t.plain&&decide (es.size>1))=true then _ else _) _ _ _;rw[ay (by rw[fh (Nat.not_lt.mpr hz),Bool.and_false];decide)];show wpAny _ _ ((if (!t.led&& !es.isEmpty)=true then _ else _)>>=_) _ _ _;rw[hl,ay θ];exact ah (aF (aF h))
theorem D_(xs:Array Nat)(h:xs.size<=1):SetTable.below xs 0=0:=by
 unfold SetTable.below;have:xs.size=0\/xs.size=1:=ω
 rcases this with z|z
 .rw[z];rfl
 .rw[z]
  unfold SetTable.below.go;rw[aC δ];dsimp only;rw[ay ω];rfl
theorem below_1(xs:Array Nat)(j:Nat)(h:xs.size=1)(a:xs[0]?=some j):SetTable.below xs (j+1)=1:=by
 unfold SetTable.below;rw[h];unfold SetTable.below.go;rw[aC δ];dsimp only;have e:xs.getD ((0+1)/2) (j+1)=j:=by
  show xs.getD 0 (j+1)=j;rw[nY,a];rfl
 rw[e,aC ω];rfl
theorem YC(y:w.params.followText "set-order"=false)(hl:t.led=true)(hz:es.size<=1)(n:t.fits es.size=true)(D:A.handled=none)(q:a≠it):
  Walks prog w A it [it,a] [it] (es.toList.map (·.2)).length (λi v=>(es.toList.map (·.2))[i]? =some v) (λi h=>gG h it a (.int (if i=0 then 0 else t.place.getD 0 0+1:Nat) 0) i es.size ep/\jt h a es ep t) where
 sub:=λb d=>by simp at d;simp[d]
 frame:=λ_ _ _ st B=>⟨st.1.keep λo e=>B it θ o e,st.2.keep λo e=>B a θ o e⟩
 item:=λi s Q E hi st f=>by
  have c:i<es.size:=by simpa using hi
  have h0:i=0:=ω
  subst h0
  have F:t.place.size=es.size:=by simp only[SetTable.fits,gE,kr] at n;exact n.1
  have C:es[0]? =some (es[0]'c):=gV c
  have g:t.place[0]? =some (t.place[0]' ω):=gV ω
  have r:t.place.getD 0 0=t.place[0]' ω:=by rw[nY,g];rfl
  refine HJ (slot:=((if (0:Nat)=0 then 0 else t.place.getD 0 0+1:Nat):Int)) (x:=(es[0]'c).2) (nx:=(t.place[0]' ω)+1) st.1 st.2 (λA' G H p=> ?_) λh' j k=> ?_
  .refine HH y hl hz st.2 ?_
   simp only[ly,rR]
   rw[D_ _ ω,C,g]
   exact p
  .refine f _ h' s.toks ?_ ⟨?_,st.2.keep λo e=>(k.2 a q).trans e⟩ λb o d e=>(k.2 b λz=>d (by simp[z])).trans e
   .rw[bM,nG,C];rfl
   .rw[ay ω,r];exact j
 done:=λs Q E st f=>by
  have F:t.place.size=es.size:=by simp only[SetTable.fits,gE,kr] at n;exact n.1
  have l:(es.toList.map (·.2)).length=es.size:=θ
  rw[l] at st
  refine FJ D st.1 st.2 (λA' G H p=>HH y hl hz st.2 ?_) λh' u=>f h' s.toks λb o d e=>u b o (λz=>d (by simp[z])) e
  simp only[rR]
  by_cases m:es.size=0
  .rw[aC m,D_ _ ω,su ω]
   exact p
  .have g:t.place[0]? =some (t.place[0]' ω):=gV ω
   have r:t.place.getD 0 0=t.place[0]' ω:=by rw[nY,g];rfl
   rw[ay m,r,below_1 _ _ ω g,su ω]
   exact p
 self:=λ_ _ _ _ st f=>Bf st.1 f
theorem UH{ps:B2}(a:ps.Perm (range es.size)):(ps.map λp=>((es[p]?).getD (0,.none)).2).Perm (es.toList.map (·.2)):=by
 refine(a.map _).trans ?_;have:((range es.size).map λp=>((es[p]?).getD (0,.none)).2)=es.toList.map (·.2):=by
  apply sf;intro i;simp only[bM,nG];by_cases hi:i<es.size
  .rw[List.getElem?_range hi,gV hi]
   simp[gV hi]
  .rw[nZ (by simpa using hi),su ω];rfl
 rw[this]
theorem Rh{Q:aR}(B:fT prog w s.heap a es)
  (h:∀(h':Heap) (d:Drawn) (it:Addr) (zs:BM) (fp:D1) (St:Nat->Heap->Prop),zs.Perm (es.toList.map (·.2))->(∀A':Around,A'.handled=none->Walks prog w A' it fp [it] zs.length (λi v=>zs[i]?=some v) St)->St 0 h'->
   it∈fp->(∀b∈fp,b=a\/s.heap.objs.size<=b)->(∀b∈fp,b<h'.objs.size)->s.heap.objs.size<=it->(∀b o,s.heap.get? b=some o->h'.get? b=some o)->Q (.ref it) {s with heap:=h',drawn:=d}):wpAny (model prog w) A (pyIter (.ref a)) Q E s:=by
 obtain⟨o,ep,t,f,hex,hd,C,D,F,g,k,x⟩:=B;have y:s.TypeIs (.ref a) "set":=⟨o,f,hex.1⟩;have alt:a<s.heap.objs.size:=aW f;refine wpAny_pyIter_slot y KC (jo KC y Ox ?_ (Ml _));show wpAny _ _ (Builtin.Frozenset.sizeOf a>>=_) _ _ s;unfold Builtin.Frozenset.sizeOf;refine ah (ah (u9 f hd g (aF ?_)));refine ah ?_;unfold setDrawn;refine ah (rX f hd g ?_);dsimp only;refine ah (vH (aF ?_));show wpAny _ _ (if (!w.params.followText "set-order"&&(!t.plain&&decide (es.size>1)))=true then _ else _) _ _ _;by_cases hc:(!w.params.followText "set-order"&&(!t.plain&&decide (es.size>1)))=true
 .rw[aC hc]
  refine ah (Fz _ _ _ _ θ λys d j=>?_);unfold newTuple;have hsz:sizeOk (.seq ((ys.map λ(i:Nat)=>rawInt i).toArray) 0):=by
   show((ys.map λ(i:Nat)=>rawInt i).toArray).size<=sizeLine;rw[bT,aQ,j.length_eq,rL];exact zd F
  refine ah (gD ?_ hsz);have l:=λb o (e:s.heap.get? b=some o)=>bu {cls:=.type "tuple",data:=.seq ((ys.map λ(i:Nat)=>rawInt i).toArray)} e;have m:=l a o f;refine ah (wpAny_setEpoch_of m hd g ?_);refine ah (gD (aF ⟨_,rfl,"set_iterator",_,⟨_,cy _ rfl,rfl⟩,slot_next.lookup,?_⟩) (by size_fits));have ne1:a≠(s.heap.push {cls:=.type "tuple",data:=.seq ((ys.map λ(i:Nat)=>rawInt i).toArray)}).objs.size:=by rw[fB];exact bJ (gm alt)
  have ne2:s.heap.objs.size≠(s.heap.push {cls:=.type "tuple",data:=.seq ((ys.map λ(i:Nat)=>rawInt i).toArray)}).objs.size:=by rw[fB];exact bJ (kc _)
  refine h _ d _ (ys.map λp=>((es[p]?).getD (0,.none)).2) [_,a,s.heap.objs.size] _ (UH j) (λA' n=>YB (t:=t) (ep:=ep) n ne1 ne2 j) ⟨⟨_,cy _ rfl,rfl,rfl⟩,⟨o,bu _ m,hd,g⟩,⟨_,_,bu _ (cy _ rfl),rfl⟩⟩ θ (λb c=>by
   simp only[bx,gB,gC] at c;rcases c with z|z|z
   .exact .inr (by rw[z,fB];exact nH _)
   .exact .inl z
   .exact .inr (by rw[z];exact aJ _)) (λb c=>?_) (by rw[fB];exact nH _) λb o e=>bu _ (l b o e)
  rw[fB,fB];simp only[bx,gB,gC] at c;rcases c with z|z|z
  .rw[z,fB];exact kc _
  .rw[z];exact gm (gm alt)
  .rw[z];exact gm (kc _)
 .rw[ay hc]
  refine ah (aF ?_);refine ah (wpAny_setEpoch_of f hd g ?_);refine ah (gD (aF ⟨_,rfl,"set_iterator",_,⟨_,cy _ rfl,rfl⟩,slot_next.lookup,?_⟩) (by size_fits));have ne1:a≠s.heap.objs.size:=bJ alt;have q:∀b∈[s.heap.objs.size,a],b<(s.heap.push {cls:=.type "set_iterator",data:=.fields [rawInt 0,rawInt 0,.ref a,rawInt (es.size:Nat),rawInt (ep:Nat)].toArray}).objs.size:=λb c=>by
   rw[fB];simp only[bx,gB,gC] at c;rcases c with z|z
   .rw[z];exact kc _
   .rw[z];exact gm alt
  have r:∀b∈[s.heap.objs.size,a],b=a\/s.heap.objs.size<=b:=λb c=>by
   simp only[bx,gB,gC] at c;rcases c with z|z
   .exact .inr (by rw[z];exact aJ _)
   .exact .inl z
  cases u:w.params.followText "set-order" with
  |true=>
   exact h _ s.drawn _ ((pickOrder (w.params.setOrder a ep) es).toList.map (·.2)) [_,a] _ ((UP _ es).map _) (λA' n=>YD (t:=t) u n ne1) ⟨⟨_,cy _ rfl,rfl,rfl⟩,⟨o,bu _ f,hd,g⟩⟩ θ r q (aJ _) λb o e=>bu _ e
  |false=>
   have hz:es.size<=1:=by
    rw[u] at hc;by_cases hz:es.size<=1
    .exact hz
    .rw[x ω,dc ω] at hc
     exact absurd rfl hc
   have hl:t.led=true:=by rw[k,u];rfl
   exact h _ s.drawn _ (es.toList.map (·.2)) [_,a] _ (.refl _) (λA' n=>YC (t:=t) (ep:=ep) u hl hz g n ne1) ⟨⟨_,cy _ rfl,rfl,rfl⟩,⟨o,bu _ f,hd,g⟩⟩ θ r q (aJ _) λb o e=>bu _ e
end
section
variable{a:Addr}{es:Array (Int×Value)}
theorem M0{Q:BM->Shared->Prop}(J:A.handled=none)(B:fT prog w s.heap a es)
  (N:∀(h':Heap) (d:Drawn) (tk:Nat) (zs:BM),zs.Perm (es.toList.map (·.2))->s.heap.objs.size<=h'.objs.size->(∀b o,s.heap.get? b=some o->h'.get? b=some o)->Q zs {s with heap:=h',drawn:=d,toks:=tk}):
  wpAny (model prog w) A (collect (.ref a)) Q E s:=by
 have alt:a<s.heap.objs.size:=by obtain⟨o,_,_,C,_⟩:=B;exact aW C
 have hz:es.size<scanBound:=by obtain⟨_,_,_,_,_,_,_,_,f,_⟩:=B;exact f
 unfold collect;refine ah (wpAny_runValue (i9 PySem.F.entry_proto_collect ?_));rw[jL PySem.F.plain_proto_collect _];show wpAny _ A.in1 (newList []>>=λl=>again (.builtin "list.__iadd__" ⟨[l,.ref a],[]⟩)) _ _ s;refine ah (gD ?_);refine aF ⟨kh yP _,i9 PySem.F.entry_list_iadd ?_⟩;rw[jL yP _];have i:fT prog w (s.heap.push {cls:=.type "list",data:=.seq ([]:BM).toArray}) a es:=B.keeps λo e=>bu _ e;have v:∀{s':Shared},fT prog w s'.heap a es->s'.TypeIs (.ref a) "set":=λ {s'} x=>by obtain⟨o,_,_,C,hex,_⟩:=x;exact⟨o,C,hex.1⟩
 show wpAny _ A.in1 (Builtin.List.listExtendWith (.ref s.heap.objs.size) (.ref a) (.ref s.heap.objs.size)) _ _ _;unfold Builtin.List.listExtendWith;refine ah (lI (v (s':={s with heap:=s.heap.push {cls:=.type "list",data:=.seq ([]:BM).toArray}}) i) ?_);have h1:Builtin.List.listSameRef (.ref s.heap.objs.size) (.ref a)=false:=by simp[Builtin.List.listSameRef,kg alt]
 have h2:(Value.type "set" ==Value.type "list")=false:=δ
 have O:(Value.type "set" ==Value.type "tuple")=false:=δ
 simp only[h1,h2,O,yM,jM,gz];refine ah (Rh (s:={s with heap:=s.heap.push {cls:=.type "list",data:=.seq ([]:BM).toArray}}) i λh2 d it zs fp St m W D hit G P n k2=>?_);have k:fT prog w h2 a es:=i.keeps λo e=>k2 _ _ e;refine ah (gn ?_);unfold Builtin.List.listLengthHint;refine ah (wpAny_specialOf (v (s':={s with heap:=h2,drawn:=d}) k) PySem.F.slot_set_len.lookup ?_);dsimp only;have g:splitId "set.__len__"=some ("set","__len__"):=η
 rw[g];dsimp only;refine ah (yW (v (s':={s with heap:=h2,drawn:=d}) k) sub_set_self ?_);simp only[Bool.not_true,jM,gz];rw[aC η];refine ah (lI (v (s':={s with heap:=h2,drawn:=d}) k) ?_);refine aF ?_;rw[aC η];refine ah (kj ?_);have R:(s.heap.push {cls:=.type "list",data:=.seq ([]:BM).toArray}).get? s.heap.objs.size=some {cls:=.type "list",data:=.seq ([]:BM).toArray}:=cy _ rfl;have K:=k2 _ _ R;have p:s.heap.objs.size∉fp:=λz=>by
  rcases G _ z with e|e
  .exact absurd alt (by rw[<-e];exact fJ _)
  .rw[fB] at e
   exact absurd e (Nat.not_succ_le_self _)
 have q:s.heap.objs.size<it:=by rw[fB] at n;exact n
 refine ah ?_;show wpAny _ A.in1 (updateSeq s.heap.objs.size (·.push .none)>>=λ_=>updateSeq s.heap.objs.size (·.pop)) _ _ _;refine ah (rY K rfl ?_);have L2:=ku (Obj.mapSeq (·.push Value.none)) K rfl;refine rY L2 rfl ?_;have S:=ku (Obj.mapSeq (·.pop)) L2 rfl;have r:∀b o,b≠s.heap.objs.size->h2.get? b=some o->((h2.update s.heap.objs.size (Obj.mapSeq (·.push Value.none))).update s.heap.objs.size (Obj.mapSeq (·.pop))).get? b=some o:=
  λb o f e=>(qe _ _ (Ne.symm f)).trans ((qe _ _ (Ne.symm f)).trans e)
 have T:=(W A.in1 J).toS;have U:zs.length<=sizeLine:=by rw[m.length_eq,aQ,gA];exact zd hz
 refine aF ⟨kh u5 _,codeAny_extend_loopS T U _ p _ zs.length 0 _ _ _ rfl (cA _) ((W A.in1 J).frame 0 _ _ D λb f o e=>r b o (λz=>p (z▸f)) e) S (ItemsOf.nil _) λs' c c' y t h=>?_⟩;show wpAny _ A (load s.heap.objs.size>>=_) _ _ s';refine ah (wpAny_load t ?_);have u:c.toList=zs:=by
  apply sf;intro j;rw[nG];by_cases L:j<c.size
  .have M:c[j]?=some (c[j]'L):=gV L
   rw[M];exact(h.2 j _ M).symm
  .rw[su ω,nZ (by rw[<-h.1];omega)]
 obtain⟨h',g',d',H,I⟩:=s';have V:g'=s.gens:=y.gens;have X:d'=d:=y.drawn;have Y:I=s.os:=y.os;subst V;subst X;subst Y;refine aF ?_;show Q c.toList _;rw[u];have kp:∀b o,s.heap.get? b=some o->h'.get? b=some o:=λb o e=>by
  have f:b<s.heap.objs.size:=aW e;refine y.heap b o ?_ (r b o (bJ f) (k2 _ _ (bu _ e)));simp only[bx,gB,gC,not_or];exact⟨bJ f,bJ (lt_trans f q)⟩
 exact N h' d' H zs m (j_ (aW t)) kp
theorem Xm{l:List (Int×Value)}(h:ElemsOf (PySem.strKind prog w) l):∀{zs:BM},zs.Perm (l.map (·.2))->StrsAre zs (zs.map strOf):=λ {zs} a=>by
 have:∀v∈zs,∃t,v=Value.str (strOf v) t:=λv b=>by
  obtain⟨e,c,rfl⟩:=aS.mp (a.mem_iff.mp b);exact Aw h c
 clear a;induction zs with
 |nil=>exact .nil
 |cons v r d=>
  obtain⟨t,e⟩:=this v θ;have r':=d λf h'=>this f (by simp[h']);rw[cJ];rw[e];exact .cons _ t r'
theorem W8{Q:aR}(v:A.handled=none)(r:fT prog w s.heap a es)(k:es.size<64)
  (h:∀(h':Heap) (d:Drawn) (tk:Nat) (l:Addr) (e:Nat) (out:BM) (ss:Ap),s.heap.objs.size<=l->h'.get? l=some (seqObj "list" out.toArray e)->StrsAre out ss->ss.Perm (names es)->sortedS ss=true->
   (∀b o,s.heap.get? b=some o->h'.get? b=some o)->Q (.ref l) {s with heap:=h',drawn:=d,toks:=tk}):
  wpAny (model prog w) A (call (.builtin "sorted") [.ref a]) Q E s:=by
 have c:ElemsOf (PySem.strKind prog w) es.toList:=by obtain⟨_,_,_,_,_,_,c,_⟩:=r;exact c
 refine CT kind_sorted plain_sorted entry_sorted (args_sorted1 _) ?_;unfold Builtin.«sorted»;refine ah (m:=checkCount "sorted" 1 1 _) (aF ?_);refine ah (M0 v r λh1 d tk zs hz hsz k1=>?_);have f:StrsAre zs (zs.map strOf):=Xm c hz;have i:zs.length<64:=by rw[hz.length_eq,aQ,gA];exact k
 refine ah (yX ?_);have g:(h1.push (seqObj "list" zs.toArray 0)).get? h1.objs.size=some (seqObj "list" zs.toArray 0):=cy _ rfl;show wpAny _ _ _ _ _ {s with heap:=h1.push (seqObj "list" zs.toArray 0),drawn:=d,toks:=tk};refine ah (gn (jo slot_list_sort ⟨_,g,rfl⟩ entry_list_sort (list_sort_treeK strKind_oneLt g f.keysOf (λt u rest e=>keyKind_strs (by rw[<-e];exact f)) i λj a1 a2=>⟨_,rfl,?_⟩) (args_list_sort _)));obtain⟨n,x,y,z⟩:=sorted_out_str f a1 a2;obtain⟨e,B⟩:=sortedHeap_at (out:=(arrOf j).map (·.2)) g;refine aF ⟨_,rfl,h _ d tk h1.objs.size e ((arrOf j).map (·.2)).toList n hsz (by rw[yS];exact B) x (y.trans ?_) z λb o q=>?_⟩
 .have:=hz.map strOf
  rw[bH] at this;exact this
 .have p:=k1 b o q
  rw[sortedHeap_old (bJ (aW p)) (by rw[pR];exact gm (aW p))];exact bu _ p
end
end SS
namespace L2
variable{X:Cx}
theorem Xk{xs:Ap}{its:BM}(r:Vals (xs.map V.str) its):∀(i:Nat) (v:Value),its.toArray[i]?=some v->∃t:Tok,v=Value.str (xs.getD i ⟨#[]⟩) t:=λi v h=>by
 have h':its[i]?=some v:=by simpa using h
 have hl:=r.length;have hi:i<its.length:=(bP.mp h').1;have b:(xs.map V.str)[i]?=some (V.str (xs.getD i ⟨#[]⟩)):=by
  rw[bM,fZ];have:i<xs.length:=by rw[<-hl,aQ] at hi;exact hi
  rw[a_ this];rfl
 obtain⟨u,a,c⟩:=r.get b;rw[h'] at a;cases a;exact c
def strLt(a b:Str):Prop:=a.cps.toList<b.cps.toList
theorem Ja:∀(p:Str) (l:Ap),risingS p l=true->(p::l).Pairwise (λa b=>¬b.cps.toList<a.cps.toList)
 |p,[],_=>List.pairwise_singleton _ _
 |p,x::r,h=>by
  simp only[risingS,gE,not_eq_true',ltCps_eq,decide_eq_false_iff_not] at h;have c:=Ja x r h.2;refine i8.mpr ⟨λy d=>?_,c⟩;rcases bx.mp d with e|e
  .rw[e];exact h.1
  .have:=(i8.mp c).1 y e
   exact λz=>(not_lt.mp this)|>λq=>absurd z (not_lt.mpr (List.le_trans (not_lt.mp h.1) q))
theorem KI{l:Ap}(h:sortedS l=true):l.Pairwise (λa b=>¬b.cps.toList<a.cps.toList):=by
 cases l with
 |nil=>exact .nil
 |cons x r=>exact Ja x r h
theorem KY{l:Ap}(h:l.Pairwise (λa b=>¬b.cps.toList<a.cps.toList))(nd:l.Nodup):l.Pairwise strLt:=by
 refine(h.and nd).imp λ {a b} q=>?_;by_cases z:a.cps.toList<b.cps.toList
 .exact z
 .have e:a.cps.toList=b.cps.toList:=le_antisymm (not_lt.mp q.1) (not_lt.mp z)
  refine absurd ?_ q.2;obtain⟨⟨c⟩⟩:=a;obtain⟨⟨d⟩⟩:=b;have f:c=d:=e;rw[f]
def XT(K:Frag)(ta:TA):TE:=λσ H Q=>ta σ H λvs H1=>∃(a:Addr) (xs:Ap),vs=[.ref a]/\aU K H1 a (xs.map V.str)/\xs.length<64/\
 ∀(l:Addr) (ys:Ap),H1 l=none->ys.Pairwise strLt->(∀x,x∈ys↔x∈xs)->Q (.ref l) (ax H1 l (.lst (ys.map V.str)))
theorem yI:∀{out:BM} {ss:Ap},StrsAre out ss->Vals (ss.map V.str) out
 |_,_,.nil=>.nil
 |_,_,.cons x t h=>.cons ⟨t,rfl⟩ (yI h)
theorem UA{e:Expr}{ta:TA}{U p2 w f:Pos}(F:X.mg "sorted"=none)(G:X.mg "set"=none)(hc:X.calm=true)(W:PA X [e] ta)(J:Gl X "sorted":=by rfl)(L:Gl X "set":=by rfl)
  (Y:starEach [e] X.env=[(false,eval e X.env)]:=by rfl)(hz:starEach [.Call (.Name "set" p2) [e] [] f] X.env=[(false,eval (.Call (.Name "set" p2) [e] [] f) X.env)]:=by rfl):
  PE X (.Call (.Name "sorted" U) [.Call (.Name "set" p2) [e] [] f] [] w) (XT X.K ta):=by
 intro ae s σ H Q I h;refine lH (jB I J F (show bootBuiltins "sorted"=some (.builtin "sorted") by with_unfolding_all rfl) ?_);refine PyProof.Rows.callWith_builtin1 ?_ hz rfl;rw[hz];refine yN (lH (jB I L G (show bootBuiltins "set"=some (.type "set") by with_unfolding_all rfl) (mJ (aN (W f ae s σ H _ I h) λus y ⟨vs,H1,m,Z,q1⟩=>?_) Y rfl)));obtain⟨a,xs,e,hq,h64,q⟩:=q1;subst e;obtain⟨u,rfl,ru⟩:=vals1 Z;cases ru;obtain⟨its,R,pl,Y5⟩:=m.list hq;have hl:=R.length;have hsz:its.toArray.size=xs.length:=by rw[bT,<-hl,aQ]
 refine SS.MK (val:=λi=>xs.getD i ⟨#[]⟩) (m.ok.hd hc) pl.isList (λi v hv=>Xk R i v hv) (by rw[hsz,show scanBound=4096 from rfl];omega) λh2 tk es M S A k2=>?_;have k:es.size<64:=ω
 have g:∀b o,y.heap.get? b=some o->h2.get? b=some o:=λb o e=>k2 b o (aW e) e;refine yO ?_;refine SS.W8 (s:={y with heap:=h2,toks:=tk}) (m.ok.hd hc) M k λT d B l ep out ss p N O c r k3=>?_;have alt:y.heap.objs.size<h2.objs.size:=by obtain⟨o,_,_,ho,_⟩:=M;exact aW ho
 have E:H1 l=none:=m.ar.fresh (dF (j_ alt) p);have nd:ss.Nodup:=c.nodup_iff.mpr (by obtain⟨_,_,_,_,_,_,_,P,_⟩:=M;exact P);have t:∀x,x∈ss↔x∈xs:=λx=>by
  rw[c.mem_iff,A x,hsz];constructor
  .rintro ⟨j,C,rfl⟩
   rw[fZ,a_ C];exact lu C
  .intro hx
   obtain⟨j,C,e⟩:=jm hx;exact⟨j,C,by rw[fZ,a_ C];exact e⟩
 have D:ss.length=es.size:=by rw[c.length_eq,aQ,gA]
 have I2:Inv X ae σ (ax H1 l (.lst (ss.map V.str))) {y with heap:=T,drawn:=d,toks:=B}:=by
  refine m.call (ch:=[]) (g':=y.gens) (d':=d) (t':=B) (h':=T) (H':=ax H1 l (.lst (ss.map V.str))) ⟨λb o q _ _ _=>k3 b o (g b o q),λb o q _ _ _=>⟨o.slots,k3 b o (g b o q)⟩,λb o q n _=>?_,λb o q _=>⟨o,k3 b o (g b o q)⟩,λb xs q=>?_,λb o u q=>?_,λb ps q=>⟨#[],?_⟩⟩ ?_ m.bare λb z=>absurd z θ
  .rw[aX (bJ (cY (aW q) (dF (j_ alt) p)))];exact n
  .rw[aX (c_ q E)];exact q
  .rw[aX (c_ q E)];exact q
  .rw[aX (c_ q E),q];simp
  .exact m.ar.laid (λb u q=>k3 b u (g b u q)) (dF (j_ alt) p) ⟨by rw[aQ,D];exact j_ (cY k δ),out,ep,yI O,N⟩
 exact⟨.ref l,_,I2,rfl,q l ss E (KY (KI r) nd) t⟩
theorem BY(ns:DD):∀k,k<=ns.length->preSum (λi=>ns.getD i 0) k=(ns.take k).sum
 |0,_=>by simp[preSum]
 |k+1,h=>by
  have e:preSum (λi=>ns.getD i 0) (k+1)=preSum (λi=>ns.getD i 0) k+ns.getD k 0:=by
   first|rfl|(unfold preSum;simp[range_succ])
  rw[e,BY ns k ω,List.take_add_one,a_ ω,List.sum_append,fZ,a_ ω];simp
theorem K2:∀(ns:DD) (b:Int),(∀n∈ns,0<=n/\n<=b)->0<=ns.sum/\ns.sum<=b*ns.length
 |[],b,_=>by simp
 |x::r,b,h=>by
  obtain⟨h1,h2⟩:=h x θ;obtain⟨c,d⟩:=K2 r b λn a=>h n (by simp[a]);rw[List.sum_cons,iw];refine⟨ω,?_⟩;have:b*((r.length+1:Nat):Int)=b*(r.length:Int)+b:=by rw[Int.natCast_add,Int.mul_add];simp
  rw[this];omega
theorem MM(hc:X.calm=true):eG X (.builtin "sum") (λxs H Q=>∃(p:Addr) (ns:DD),xs=[.ref p]/\aU X.K H p (ns.map V.int)/\(∀n∈ns,0<=n/\n<=2 ^ 40)/\ns.length<=1000/\Q (.int ns.sum) H):=by
 intro ae s σ H xs F Q I r h;obtain⟨p,ns,rfl,y,o,hl,q⟩:=h;obtain⟨u,rfl,l⟩:=vals1 r;cases l;obtain⟨vs,t,pl,hz⟩:=I.list y;have a:vs.length=ns.length:=by rw[<-t.length,aQ]
 have c:=pl.isList;have d:p<s.heap.objs.size:=by obtain⟨_,e,_⟩:=c;exact aW e
 have small:∀k,k<=ns.length->InLong (preSum (λi=>ns.getD i 0) k):=λk m=>by
  rw[BY ns k m];obtain⟨h1,h2⟩:=K2 (ns.take k) (2 ^ 40) λn B=>o n (rO B);have C:((ns.take k).length:Int)<=1000:=by rw[nJ];omega
  have G:(2 ^ 40:Int)*((ns.take k).length:Int)<=2 ^ 40*1000:=pY C δ;unfold InLong;first|(constructor<;>omega)|omega
 refine call_sum_walk (pW c ?_);refine⟨s.heap.objs.size,[s.heap.objs.size,p],[s.heap.objs.size],vs.toArray.size,_,_,λi=>ns.getD i 0,rfl,Walks.list (A:=X.A.in1) (I.ok.hd hc) _ p (bJ d) vs.toArray,
  ⟨⟨_,cy _ rfl,rfl,rfl⟩,c.push _⟩,λb f=>?_,λi v D=>?_,λj w=>⟨?_,small (j+1) (by simp at w;omega)⟩,λh' tk t' m=>?_⟩
 .rw[fB]
  simp only[bx,gB,gC] at f;rcases f with z|z
  .rw[z];exact kc _
  .rw[z];exact gm d
 .have h':vs[i]?=some v:=by simpa using D
  have hi:i<ns.length:=by rw[<-a];exact(bP.mp h').1
  have E:(ns.map V.int)[i]?=some (V.int (ns.getD i 0)):=by
   rw[bM,fZ,a_ hi];rfl
  obtain⟨u,x,l⟩:=t.get E;rw[h'] at x;cases x;exact l
 .have g:j<ns.length:=by simp at w;omega
  obtain⟨h1,h2⟩:=o (ns.getD j 0) (by rw[fZ,a_ g];exact lu g);show InLong (ns.getD j 0);unfold InLong;first|(constructor<;>omega)|omega
 .have e:preSum (λi=>ns.getD i 0) vs.toArray.size=ns.sum:=by
   rw[bT,a,BY ns _ (aJ _),take_length]
  rw[e];exact⟨.int _,H,I.kept (h':=h') (t':=tk) (LSm.kept_iter m),⟨_,rfl⟩,q⟩
theorem empty_app(x:Str):Str.empty++x=x:=by
 obtain⟨c⟩:=x;show Str.mk (#[]++c)=⟨c⟩;rw[Array.empty_append]
def Xz(x:Str)(te:TE):TE:=λσ H Q=>te σ H λv H1=>∃y,v=.str y/\x.length+y.length<=sizeLine/\Q (.str (x++y)) H1
theorem Uu{e:Expr}{te:TE}{x:Str}{k:Nat}{b p2 pos:Pos}(d:PE X e te)(f:x.length<=sizeLine:=by decide):PE X (.JoinedStr [.Constant (.str x) k b,.FormattedValue e (-1) none p2] pos) (Xz x te):=by
 intro ae s σ H Q I h;refine wpAny_JoinedStr ?_;show wpAny _ _ (eval (.Constant (.str x) k b) X.env) _ _ _;refine Calls.Constant_str ⟨x,_,rfl,?_,?_⟩
 .show(Str.empty++x).length<=sizeLine
  rw[empty_app];exact f
 show wpAny _ _ (eval (.FormattedValue e (-1) none p2) X.env) _ _ _;refine wpAny_FormattedValue_plain (aN (d ae _ σ H _ (I.tok _) h) λu j ⟨v,H1,c,g,y,i,hl,q⟩=>?_);subst i;obtain⟨t,rfl⟩:=g;have a:Str.empty++x=x:=empty_app x;have hz:(x++y).length<=sizeLine:=by
  have:(x++y).length=x.length+y.length:=by show(x.cps++y.cps).size=x.cps.size+y.cps.size;exact u6
  rw[this];exact hl
 refine wpAny_formatField_str ?_ ?_ ω
 .refine⟨y,t,rfl,?_,?_⟩
  .rw[a];exact hz
  .rw[a]
   exact⟨hz,.str (x++y),H1,c.tok _,⟨_,rfl⟩,q⟩
 .refine⟨y,_,rfl,?_,?_⟩
  .rw[a];exact hz
  .rw[a]
   exact⟨hz,.str (x++y),H1,(c.tok _).tok _,⟨_,rfl⟩,q⟩
variable{prog:Program}{w:World}{A:Around}{E:aR}{s:Shared}
theorem tuple_addW0(l b:Addr)(items a:Array Value)(n n2:Nat)(dd c:Option Addr)(f e:Array (Option Value))(i:items.isEmpty=true):
  Meets (Builtin.«tuple.__add__» ⟨[.ref l,.ref b],[]⟩) (λ_ R s=>s.heap.get? l=some {cls:=.type "tuple",dict:=dd,data:=.seq items n,slots:=f}/\s.heap.get? b=some {cls:=.type "tuple",dict:=c,data:=.seq a n2,slots:=e}/\R (.ok (.ret (Value.ref b))) {s with heap:=s.heap,toks:=s.toks}):=
 .of_wp λprog w A R s h=>by obtain⟨k,g,d,tk,os⟩:=s;obtain⟨hl,j,h⟩:=h;have f1:=AutoSeq1.idx_int;have f2:=CS;have m:=AutoSeq1.sub_list_list;have f4:=AutoSeq1.sub_tuple_list;have o:=AutoSeq1.sub_list_tuple;wp_walk using rT hl,rT j;exact⟨_,rfl,h⟩
theorem Td:fillsNumberSlot (.type "tuple") "mul"=pure false:=
 PySem.fillsNumberSlot_seq (id:="tuple.__mul__") (r:=some (.builtin "tuple.__rmul__")) slot_tuple_mul.lookup η (by rw[mO,mR];kernel_rfl) η
theorem VB:seqRepeat? (.type "tuple")=pure (some (.builtin "tuple.__mul__")):=by
 unfold seqRepeat?;rw[PySem.seqSlot_of (T:="tuple") (name:="__mul__") (id:="tuple.__mul__") slot_tuple_mul.lookup η,PySem.seqSlot_of (T:="tuple") (name:="__rmul__") (id:="tuple.__rmul__") (by rw[mO,mR];kernel_rfl) η];rfl
theorem Q9(a:Int)(t:Tok)(l:Addr)(items:Array Value)(n:Nat):
  Meets (Builtin.«int.__rmul__» ⟨[.int a t,.ref l],[]⟩) (λ_ R s=>s.heap.get? l=some {cls:=.type "tuple",dict:=none,data:=.seq items n,slots:= #[]}/\R (.ok (.ret Value.notImplemented)) s):=
 .of_wp λprog w A R s h=>by obtain⟨b,g,d,tk,os⟩:=s;obtain⟨hl,h⟩:=h;wp_walk;exact⟨_,rfl,h⟩
theorem Ye(l:Addr)(items:Array Value)(n:Nat)(k:Int)(t:Tok)(h0:items.isEmpty=false)(h1:2<=k)(h2:k<2 ^ 20)(c:items.size*k.toNat<=sizeLine):
  Meets (Builtin.«tuple.__mul__» ⟨[.ref l,.int k t],[]⟩) (λ_ R s=>s.heap.get? l=some {cls:=.type "tuple",dict:=none,data:=.seq items n,slots:= #[]}/\
   R (.ok (.ret (Value.ref s.heap.objs.size))) {s with heap:=s.heap.push {cls:=Value.type "tuple",data:=Data.seq ((replicate k.toNat items).foldl (·++·) #[])},toks:=s.toks}):=
 .of_wp λprog w A R s h=>by
  obtain⟨q,g,d,tk,os⟩:=s;obtain⟨hl,h⟩:=h;have f1:=AutoSeq1.idx_int;have f2:=CS;have i:(decide (k< -(2 ^ 63))||decide (k≥2 ^ 63))=false:=by rw[fh ω,fh ω];rfl
  have j:(items.isEmpty||k==1)=false:=by rw[h0,Bool.false_or];simp;omega
  have m:(decide (k<=0)||items.isEmpty)=false:=by rw[h0,yM,fh ω]
  have f:(items.size:Int)*k=((items.size*k.toNat:Nat):Int):=by rw[Int.natCast_mul,Int.toNat_of_nonneg ω]
  have hz:(items.size*k.toNat:Nat)<=sizeLine:=c;have o:¬(items.size:Int)*k>(2 ^ 63 - 1)/8:=by
   rw[f];have:(sizeLine:Nat)<=(2 ^ 63 - 1)/8:=δ
   omega
  have p:Builtin.Tuple.tupleTooMany ((items.size:Int)*k)=false:=by
   rw[f];unfold Builtin.Tuple.tupleTooMany;exact fh ω
  wp_walk using rT hl;rw[i,ay δ];wp_walk using rT hl;rw[j,ay δ];dsimp only;rw[m,ay δ,ay o,p,ay δ];unfold Builtin.Tuple.tupleExact;have e:foldl (λa b=>a++b) #[] (replicate k.toNat items)=(replicate k.toNat items.toList).flatten.toArray:=by
   have:=foldl_rep items.toList k.toNat [];rw[d_] at this;simpa using this
  have hsz:sizeOk (.seq (foldl (λa b=>a++b) #[] (replicate k.toNat items)) 0):=by
   show(foldl (λa b=>a++b) #[] (replicate k.toNat items)).size<=sizeLine;rw[e,bT,len_rep,gA,mul_comm];exact c
  exact ah (gD (aF ⟨_,rfl,h⟩) hsz)
def Vr(K:Frag):R2:=λx y H Q=>∃a b ys,x=.ref a/\y=.ref b/\bL K H a []/\bL K H b ys/\Q (.ref b) H
theorem TL:bI X (binaryOp .Add) (Vr X.K):=by
 intro ae s σ H x y v u Q I k l h;obtain⟨a,b,ys,rfl,rfl,m,o,q⟩:=h;cases k;cases l;obtain⟨its,p,r,_⟩:=I.tuple m;obtain⟨c,w,p2,_⟩:=I.tuple o;cases p;obtain⟨⟨cls,dd,data,t⟩,i,hc,n,hd⟩:=id r;obtain⟨⟨j,f,data2,g⟩,d,e,n2,hd2⟩:=id p2;simp only at hc hd e hd2;subst hc hd e hd2;exact concat_meets ⟨_,i,rfl⟩ ⟨_,d,rfl⟩ noFill_tuple_add seq_tuple_add slot_tuple_add entry_tuple_add (args_tuple_add_2 _ _)
  (tuple_addW0 a b #[] c.toArray n n2 dd f t g rfl) ⟨i,d,⟨.ref b,H,I,rfl,q⟩⟩
noncomputable def ID(K:Frag):R2:=λx y H Q=>∃a b xs ys,x=.ref a/\y=.ref b/\bL K H a xs/\bL K H b ys/\xs.length+ys.length<=sizeLine/\
 (xs=[]->Q (.ref b) H)/\(xs≠[]->ys=[]->Q (.ref a) H)/\(xs≠[]->ys≠[]->∀p,H p=none->Q (.ref p) (ax H p (.tup (xs++ys))))
theorem TH:bI X (binaryOp .Add) (ID X.K):=by
 intro ae s σ H x y v u Q I d e h;obtain⟨a,b,xs,ys,rfl,rfl,f,g,hz,i,j,k⟩:=h;by_cases c:xs=[]
 .subst c
  exact TL ae s σ H _ _ v u Q I d e ⟨a,b,ys,rfl,rfl,f,g,i rfl⟩
 .exact TJ ae s σ H _ _ v u Q I d e ⟨a,b,xs,ys,rfl,rfl,f,g,c,hz,j c,k c⟩
noncomputable def IX:R2:=λx y H Q=>∃l k xs,x=.ref l/\y=.int k/\H l=some (.tup xs)/\xs≠[]/\2<=k/\k<2 ^ 20/\xs.length*k.toNat<=sizeLine/\
 ∀p,H p=none->Q (.ref p) (ax H p (.tup (replicate k.toNat xs).flatten))
theorem T_:bI X (binaryOp .Mult) IX:=by
 intro ae s σ H x y v u Q I f g h;obtain⟨l,k,xs,rfl,rfl,i,j,h1,h2,hz,q⟩:=h;cases f;obtain⟨t,rfl⟩:=g;obtain⟨its,n,r,e,_⟩:=I.CF i;have hl:=r.length;have a:its.toArray.size*k.toNat<=sizeLine:=by rw[bT,<-hl];exact hz
 have d:its.toArray.isEmpty=false:=by
  cases its with
  |nil=>cases r;exact absurd rfl j
  |cons _ _=>rfl
 have c:foldl (λm p=>m++p) #[] (replicate k.toNat its.toArray)=(replicate k.toNat its).flatten.toArray:=by
  have:=foldl_rep its k.toNat [];rw[d_] at this;exact this
 refine wpAny_binaryOp_repeat_ref (T:="tuple") (U:="int") δ ⟨_,e,rfl⟩ (λs'=>typeIs_int s' k t) Td PySem.F.fills_int_mul yR VB PySem.F.slot_int_index.lookup
  (jq yR (typeIs_int s k t) PySem.F.entry_int_rmul (PySem.F.args_int_rmul_2 _ _) (Q9 k t l its.toArray n)
   ⟨e,rfl,⟨_,e,rfl⟩,jq slot_tuple_mul ⟨_,e,rfl⟩ PySem.F.entry_tuple_mul (PySem.F.args_tuple_mul_2 _ _) (Ye l its.toArray n k t d h1 h2 a) ⟨e,?_⟩⟩)
 rw[c];refine⟨.ref s.heap.objs.size,_,I.laid (t':=s.toks) (o:=.tup (replicate k.toNat xs).flatten) (λb w q=>bu _ q) (aJ _) ?_,rfl,q _ (I.ar.fresh (aJ _))⟩;exact⟨by rw[len_rep,mul_comm];exact hz,_,r.rep k.toNat,lS.new _ _⟩
theorem SJ:typeLookup (.type "list") "keys"=pure none:=by rw[mO,mR];kernel_rfl
theorem SK:typeLookup (.type "tuple") "keys"=pure none:=by rw[mO,mR];kernel_rfl
theorem Tg{a:Addr}{xs:Array Value}{k:Nat}{Q:Option Value->Shared->Prop}(i:s.heap.get? a=some {cls:=.type "list",data:=.seq xs k})(l:A.handled=none)
  (h:∀h' tk,(∀b o,s.heap.get? b=some o->h'.get? b=some o)->Q none {s with heap:=h',toks:=tk}):wpAny (model prog w) A (getAttr? (.ref a) "keys") Q E s:=by
 obtain⟨m,g,d,tk,os⟩:=s;have j:∀c,(⟨m,g,d,c,os⟩:Shared).TypeIs (.ref a) "list":=λ_=>⟨_,i,rfl⟩;have f1:=sub_AttributeError;have n:=CW.lookup;have f4:=CW.bind (.ref a);have p:=am_list_getattr_none;unfold getAttr? getAttrBy? getAttrBy;repeat (any_goals (first|assumption|exact j _|((with_reducible show wpAny _ _ (call (Value.builtin "list.__getattribute__") _ _) _ _ _);refine jq CW (j _) am_entry_list_getattribute (PySem.F.args_list_getattribute_2 _ _) (meets_getattribute_miss_list a xs k #[] "keys" _ SJ δ δ) ⟨i,l,λh' c e f=>?_⟩)|wp_step))
 obtain⟨t',q,r⟩:=f.there;show wpAny _ _ (getattributeRaised _ _ _ _ _ _ _) _ _ _;unfold getattributeRaised;repeat (any_goals (first|assumption|wp_step))
 exact h _ _ f.keeps
theorem Th{a:Addr}{xs:Array Value}{k:Nat}{Q:Option Value->Shared->Prop}(i:s.heap.get? a=some {cls:=.type "tuple",data:=.seq xs k})(l:A.handled=none)
  (h:∀h' tk,(∀b o,s.heap.get? b=some o->h'.get? b=some o)->Q none {s with heap:=h',toks:=tk}):wpAny (model prog w) A (getAttr? (.ref a) "keys") Q E s:=by
 obtain⟨m,g,d,tk,os⟩:=s;have j:∀c,(⟨m,g,d,c,os⟩:Shared).TypeIs (.ref a) "tuple":=λ_=>⟨_,i,rfl⟩;have f1:=sub_AttributeError;have n:=C1.lookup;have f4:=C1.bind (.ref a);have p:=am_tuple_getattr_none;unfold getAttr? getAttrBy? getAttrBy;repeat (any_goals (first|assumption|exact j _|((with_reducible show wpAny _ _ (call (Value.builtin "tuple.__getattribute__") _ _) _ _ _);refine jq C1 (j _) am_entry_tuple_getattribute (PySem.F.args_tuple_getattribute_2 _ _) (meets_getattribute_miss_tuple a xs k #[] "keys" _ SK δ δ) ⟨i,l,λh' c e f=>?_⟩)|wp_step))
 obtain⟨t',q,r⟩:=f.there;show wpAny _ _ (getattributeRaised _ _ _ _ _ _ _) _ _ _;unfold getattributeRaised;repeat (any_goals (first|assumption|wp_step))
 exact h _ _ f.keeps
theorem FN:entryFor table "dict.update.loop"=some Builtin.«dict.update.loop»:=entryFor_of_tree (by kernel_rfl)
theorem uC:plainId "dict.update.loop"=true:=η
section
variable{prog:Program}{w:World}{A:Around}{R:Result->Shared->Prop}{I:Addr}{fp wr:D1}{n:Nat}{P:Nat->Value->Prop}{St:Nat->Heap->Prop}
theorem loop(W:Walks prog w A.in1 I fp wr n P St)(D:Addr)(p:D∉fp)(h₀:Heap)(key:Nat->L2.Key)(C q:Nat->Value)
  (u:∀i v,i<n->P i v->∃t,v=.ref t/\t≠D/\t∉wr/\IsTup h₀ t #[C i,q i])(x:∀i,i<n->(L2.dD prog w).is (key i) (C i)=true)(hn:n<=sizeLine):
  ∀(k i:Nat) (s:Shared) (kvs:List (L2.Key×Value)),n - i=k->i<=n->St i s.heap->s.heap.DictOf (L2.dD prog w) D kvs->kvs.length<=i->(∀b o,b≠D->b∉wr->h₀.get? b=some o->s.heap.get? b=some o)->
   (∀h' tk,h'.DictOf (L2.dD prog w) D (((range n).drop i).foldl (λacc j=>stored acc (key j) (q j)) kvs)->(∀b o,b≠D->b∉wr->s.heap.get? b=some o->h'.get? b=some o)->R (.ok (.ret .none)) {s with heap:=h',toks:=tk})->
   codeAny (model prog w) A (.builtin "dict.update.loop" ⟨[.ref D,.ref I,rawInt (i:Nat),.none],[]⟩) R s:=by
 have y:D∉wr:=λh=>p (W.sub _ h);intro k;induction k with
 |zero=>
  intro i s kvs Y hi g F hl G H;have J:i=n:=ω
  subst J;refine i9 FN ?_;rw[jL uC _];show wpAny _ A.in1 (pyNext (.ref I)>>=_) _ _ s;refine ah (W.done s _ _ g λh' tk l=>?_);show wpAny _ A.in1 (Builtin.Dict.addKeywords D []>>=_) _ _ _;refine ah (aF (aF (H h' tk ?_ λb o d a e=>l b o a e)));rw[ve θ,List.foldl_nil];obtain⟨o,es,ep,K,r⟩:=F;exact⟨o,es,ep,l D o y K,r⟩
 |succ k Z=>
  intro i s kvs Y hi g F hl G H;have c:i<n:=ω
  refine i9 FN ?_;rw[jL uC _];show wpAny _ A.in1 (pyNext (.ref I)>>=_) _ _ s;refine ah (W.item i s _ _ c g λv h1 tk hP B l=>?_);obtain⟨t,rfl,tD,tw,ht⟩:=u i v c hP;obtain⟨E,L,M,nt,N⟩:=ht;have f:h1.get? t=some E:=l t E tw (G t E tD tw L);refine ah (gn ?_);refine ah (wpAny_tryCatch ?_);unfold Builtin.Dict.pairItems;refine ah (lI (T:="tuple") ⟨E,f,M⟩ ?_);rw[aC δ];refine ah (rV f N (aF ?_));show wpAny _ _ (holding [C i,q i] (dictSet D (C i) (q i))) _ _ _;have O:h1.DictOf (L2.dD prog w) D kvs:=by
   obtain⟨o,es,ep,K,r⟩:=F;exact⟨o,es,ep,l D o y K,r⟩
  refine gn (wpAny_dictSet_pairs (s:={s with heap:=h1,toks:=tk}) (x i c) O (λh2 Q m=>?_) ω);have S:St (i+1) h2:=W.frame _ _ _ B λb d o e=>(m.2 b λz=>p (z▸d)).trans e;have e1:((i:Nat):Int)+1=((i+1:Nat):Int):=ω
  refine aF ⟨kh uC _,?_⟩;show codeAny _ _ (.builtin "dict.update.loop" ⟨[.ref D,.ref I,rawInt (((i:Nat):Int)+1),.none],[]⟩) _ _;rw[e1];refine Z (i+1) _ _ ω c S Q ?_ (λb o d a e=>(m.2 b d).trans (l b o a (G b o d a e))) λh' U V X=>?_
  .have:=stored_length_le kvs (key i) (q i)
   omega
  .refine H h' U ?_ λb o d a e=>X b o d a ((m.2 b d).trans (l b o a e))
   have e2:(range n).drop i=i::(range n).drop (i+1):=by
    rw[nW (by simpa using c)];simp
   rw[e2,gF];exact V
end
def putAll(ps:List (Key×V)):List (Key×V):=ps.foldl (λacc p=>putK acc p.1 p.2) []
theorem Vk(ps acc:List (Key×V)):(ps.foldl (λacc p=>putK acc p.1 p.2) acc).length<=acc.length+ps.length:=by
 induction ps generalizing acc with
 |nil=>simp
 |cons p r a=>
  rw[gF,iw];refine dF (a _) ?_;have:(putK acc p.1 p.2).length<=acc.length+1:=by
   unfold putK;split
   .rw[aQ];omega
   .rw[dZ];simp
  omega
theorem RQ{ps:List (Key×V)}{n:Nat}{key:Nat->Key}{a:Nat->Value}(b:n=ps.length)(h:∀i p,ps[i]?=some p->key i=p.1/\RelV p.2 (a i)):KV (putAll ps) ((range n).foldl (λacc j=>stored acc (key j) (a j)) []):=by
 subst b;unfold putAll;have gen:∀(m:Nat),m<=ps.length->KV ((ps.take m).foldl (λacc p=>putK acc p.1 p.2) []) ((range m).foldl (λacc j=>stored acc (key j) (a j)) []):=λm=>by
  induction m with
  |zero=>intro _;simp;exact .nil
  |succ m c=>
   intro d;have e:ps[m]?=some (ps[m]' ω):=a_ ω;obtain⟨h1,h2⟩:=h m _ e;rw[List.take_add_one,e,range_succ,nX,nX];simp only[Option.toList_some,gF,List.foldl_nil];rw[h1];exact KV.put (c ω) _ h2
 have:=gen ps.length (aJ _);rwa [take_length] at this
def Pairs(K:Frag)(H:Hp)(ts:Bn)(ps:List (Key×V)):Prop:=ts.length=ps.length/\∀(i:Nat) (x:V) (p:Key×V),ts[i]?=some x->ps[i]?=some p->∃t,x=.ref t/\bL K H t [kV p.1,p.2]
theorem qv(hc:X.calm=true):eG X (.type "dict") (λxs H Q=>∃(p:Addr) (D:Bn) (ps:List (Key×V)),xs=[.ref p]/\(H p=some (.lst D)\/H p=some (.tup D))/\Pairs X.K H D ps/\ps.length<=1000/\∀d,H d=none->Q (.ref d) (ax H d (.dK (putAll ps)))):=by
 intro ae s σ H xs us Q I r h;obtain⟨p,D,ps,rfl,hp,hP,hl,q⟩:=h;obtain⟨u,rfl,ru⟩:=vals1 r;cases ru;have hh:=I.ok.hd hc;obtain⟨its,hv,E⟩:∃its:BM,Vals D its/\((∃n,s.heap.get? p=some {cls:=.type "list",data:=.seq its.toArray n})\/∃n,s.heap.get? p=some {cls:=.type "tuple",data:=.seq its.toArray n}):=by
  rcases hp with hp|hp
  .obtain⟨_,its,n,y,e⟩:=(show cg X.prog X.w H s.heap p (.lst D) from I.ar p _ hp)
   exact⟨its,y,.inl ⟨n,e⟩⟩
  .obtain⟨its,n,y,e,_⟩:=I.CF hp
   exact⟨its,y,.inr ⟨n,e⟩⟩
 have l:its.length=ps.length:=by rw[<-hv.length];exact hP.1
 have UT:p<s.heap.objs.size:=by rcases E with⟨_,e⟩|⟨_,e⟩<;>exact aW e
 have pair:∀i,i<ps.length->∃t k v,its[i]?=some (.ref t)/\IsTup s.heap t #[k,v]/\∃p,ps[i]?=some p/\RelV (kV p.1) k/\RelV p.2 v:=λi hi=>by
  have z:ps[i]?=some (ps[i]'hi):=a_ hi;have B:D[i]?=some (D[i]'(by rw[hP.1];exact hi)):=a_ _;obtain⟨t,ex,hq⟩:=hP.2 i _ _ B z;obtain⟨u,hu,ru⟩:=hv.get B;rw[ex] at ru;cases ru;obtain⟨its2,r2,p2,_⟩:=I.tuple hq;obtain⟨k,v,rfl,N,y⟩:=vals2 r2;exact⟨t,k,v,hu,p2,_,z,N,y⟩
 let P:Nat->Value:=λi=>match its[i]? with|some (.ref t)=>(match s.heap.get? t with|some o=>(match o.data with|.seq a _=>a.getD 0 .none|_=>.none)|none=>.none)|_=>.none
 let O:Nat->Value:=λi=>match its[i]? with|some (.ref t)=>(match s.heap.get? t with|some o=>(match o.data with|.seq a _=>a.getD 1 .none|_=>.none)|none=>.none)|_=>.none
 let key:Nat->Key:=λi=>((ps[i]?).map (·.1)).getD (.inl 0);have g:∀i,i<ps.length->∃t p,its[i]?=some (.ref t)/\IsTup s.heap t #[P i,O i]/\ps[i]?=some p/\key i=p.1/\RelV (kV p.1) (P i)/\RelV p.2 (O i):=λi hi=>by
  obtain⟨t,k,v,z,L,pp,B,N,y⟩:=pair i hi;obtain⟨o,G,hcl,n,hd⟩:=id L;have R:P i=k:=by simp only[P,z,G,hd];rfl
  have ev:O i=v:=by simp only[O,z,G,hd];rfl
  have ey:key i=pp.1:=by simp only[key,B];rfl
  rw[R,ev,ey];exact⟨t,pp,z,L,B,rfl,N,y⟩
 have hsz:ps.length<=sizeLine:=dF hl δ;refine callType_codes (Q₁:=λobj J=>obj=.ref s.heap.objs.size/\J={s with heap:=s.heap.push {cls:=.type "dict",data:=.dict #[]}}) PySem.F.kt_called_dict (PySem.F.kt_typeCall_dict_1 _) PySem.F.entry_dict_init (kt_code_dict_new _ ⟨rfl,rfl⟩) ?_;rintro obj J ⟨rfl,rfl⟩;have c:(s.heap.push {cls:=.type "dict",data:=.dict #[]}).DictOf (dD X.prog X.w) s.heap.objs.size []:=DictOf.new s.heap;refine⟨c.typeIs,PySem.F.args_dict_init_2 _ _,?_⟩;unfold Builtin.«dict.__init__»;refine ah ?_;unfold Builtin.Dict.selfAndRest;refine ah (wpAny_notOrdered_dict c.typeIs ?_);show wpAny _ _ (pure (s.heap.objs.size,[Value.ref p])) _ _ _;refine aF ?_;show wpAny _ _ (Builtin.Dict.updateFrom "dict.__init__" s.heap.objs.size (.ref p) [] .none) _ _ _;unfold Builtin.Dict.updateFrom;have k0:∀b o,s.heap.get? b=some o->(s.heap.push {cls:=.type "dict",data:=.dict #[]}).get? b=some o:=λb o e=>bu _ e;have pD:p≠s.heap.objs.size:=bJ UT;have go:∀(h1:Heap) (tk:Nat) (S:Addr) (fp:D1) (St:Nat->Heap->Prop),(∀b o,(s.heap.push {cls:=.type "dict",data:=.dict #[]}).get? b=some o->h1.get? b=some o)->s.heap.objs.size<S->
   Walks X.prog X.w X.A.in1.in1 S fp [S] its.length (λi v=>its.toArray[i]?=some v) St->St 0 h1->s.heap.objs.size∉fp->
   codeAny (model X.prog X.w) X.A.in1 (.builtin "dict.update.loop" ⟨[.ref s.heap.objs.size,.ref S,rawInt 0,.none],[]⟩) (wants (λr U=>r=.none/\EP X ae σ Q (.ref s.heap.objs.size) U) X.xe) {s with heap:=h1,toks:=tk}:=by
  intro h1 tk S fp St k1 hI W Xb hDf;have Qq:h1.DictOf (dD X.prog X.w) s.heap.objs.size []:=by
   obtain⟨o,es,ep,G,r⟩:=c;exact⟨o,es,ep,k1 _ o G,r⟩
  refine L2.loop W s.heap.objs.size hDf s.heap key P O (λi v hi hv'=>?_) (λi hi=>?_) (by rw[l];exact hsz) its.length 0 _ [] rfl (cA _) Xb Qq (cA _) (λb o _ _ e=>k1 b o (k0 b o e)) λh2 X8 Y k2=>?_
  .obtain⟨t,pp,z,L,_⟩:=g i (by rw[<-l];exact hi)
   have e:its[i]?=some v:=by simpa using hv'
   rw[z] at e;cases e;have Z:t<s.heap.objs.size:=L.lt;exact⟨t,rfl,bJ Z,by simp only[bS];exact bJ (lt_trans Z hI),L⟩
  .obtain⟨t,pp,z,L,B,R,N,y⟩:=g i (by rw[<-l];exact hi)
   rw[R];exact o4 N
  .have hn:H s.heap.objs.size=none:=I.ar.fresh (aJ _)
   have RP:∀b o,s.heap.get? b=some o->h2.get? b=some o:=λb o e=>by
    have hb:b<s.heap.objs.size:=aW e;exact k2 b o (bJ hb) (by simp only[bS];exact bJ (lt_trans hb hI)) (k1 b o (k0 b o e))
   rw[List.drop_zero,l] at Y;have hkv:KV (putAll ps) ((range ps.length).foldl (λacc j=>stored acc (key j) (O j)) []):=RQ rfl λi pp e=>by
    obtain⟨t,pp',z,L,B,R,N,y⟩:=g i (bP.mp e).1;rw[e] at B;cases B;exact⟨R,y⟩
   have hns:(s.heap.objs.size==sysModules)=false:=beq_false_of_ne (kg I.big);refine⟨rfl,.ref s.heap.objs.size,_,I.laid (t':=X8) (o:=.dK (putAll ps)) RP (aJ _) ⟨?_,hns,_,hkv,Y⟩,rfl,q _ hn⟩;have:=Vk ps [];unfold putAll;simp only[length_nil,zero_add] at this;omega
 rcases E with⟨n,e⟩|⟨n,e⟩
 .have C:=k0 _ _ e
  refine ah (lI (T:="list") ⟨_,C,rfl⟩ ?_);rw[aC δ];refine ah (L2.Tg (s:={s with heap:=s.heap.push {cls:=.type "dict",data:=.dict #[]}}) C hh λh1 M k1=>?_);rw[aC (show(none:Option Value).isNone=true from rfl)];refine ah (kj ?_);have m:h1.IsList p its.toArray:=⟨_,k1 _ _ C,rfl,n,rfl⟩;have x:p<h1.objs.size:=aW (k1 _ _ C);have f:s.heap.objs.size<h1.objs.size:=by obtain⟨o,_,_,G,_⟩:=c;exact aW (k1 _ _ G)
  refine ah (pW (s:={s with heap:=h1,toks:=M}) m ?_);have W:=Walks.list (prog:=X.prog) (w:=X.w) (A:=X.A.in1.in1) hh h1.objs.size p (bJ x) its.toArray;rw[bT] at W;refine aF ⟨kh L2.uC _,go _ _ _ _ _ (λb o q=>bu _ (k1 b o q)) f W ⟨⟨_,cy _ rfl,rfl,rfl⟩,m.push _⟩ ?_⟩;simp only[bx,gB,gC,not_or];exact⟨bJ f,Ne.symm pD⟩
 .have C:=k0 _ _ e
  refine ah (lI (T:="tuple") ⟨_,C,rfl⟩ ?_);rw[aC δ];refine ah (L2.Th (s:={s with heap:=s.heap.push {cls:=.type "dict",data:=.dict #[]}}) C hh λh1 M k1=>?_);rw[aC (show(none:Option Value).isNone=true from rfl)];refine ah (kj ?_);have m:h1.IsTuple p its.toArray:=⟨_,k1 _ _ C,rfl,n,rfl⟩;have x:p<h1.objs.size:=aW (k1 _ _ C);have f:s.heap.objs.size<h1.objs.size:=by obtain⟨o,_,_,G,_⟩:=c;exact aW (k1 _ _ G)
  refine ah (wpAny_pyIter_tuple (s:={s with heap:=h1,toks:=M}) m ?_);have W:=Walks.tuple (prog:=X.prog) (w:=X.w) (A:=X.A.in1.in1) hh h1.objs.size p (bJ x) its.toArray;rw[bT] at W;refine aF ⟨kh L2.uC _,go _ _ _ _ _ (λb o q=>bu _ (k1 b o q)) f W ⟨⟨_,cy _ rfl,rfl,rfl⟩,m.push _⟩ ?_⟩;simp only[bx,gB,gC,not_or];exact⟨bJ f,Ne.symm pD⟩
theorem FQ(a b:Bool):PySem.MeetsSeq.EqGives (.bool a) (.bool b) (a==b):=by
 intro prog w A E s Q h;exact PySem.SeqAt.EqAt.bool_bool a b prog w E Q h
theorem CN:∀{bs:Fn} {its:BM},Vals (bs.map V.bl) its->its=bs.map Value.bool
 |[],_,.nil=>rfl
 |b::r,_,.cons q t=>by
  have:=CN t;subst this;cases q;rfl
noncomputable def IE:V->Bn->Hp->VK->Prop:=λx vs H Q=>∃(l:Addr) (bs:Fn) (b:Bool),x=.ref l/\vs=[.bl b]/\H l=some (.lst (bs.map V.bl))/\Q (.int (bs.countP (·==b):Nat)) H
theorem SQ:mU X "list.count" IE:=by
 intro ae s σ H x vs v o Q I d f h;obtain⟨l,bs,b,rfl,rfl,g,q⟩:=h;cases d;obtain⟨u,rfl,i⟩:=f.one;cases i;obtain⟨z,its,n,r,hl,e⟩:=I.kM g;have j:=CN r;subst j;refine jq F.slot_list_count ⟨_,e,rfl⟩ F.entry_list_count (F.args_list_count_2 _ _) (PySem.MeetsSeq.list_count l (bs.map Value.bool).toArray n (.bool b) (λy=>match y with|.bool c=>c==b|_=>false) (λy k=>?_)) ⟨e,?_⟩
 .have a:y∈bs.map Value.bool:=by simpa using k
  obtain⟨c,_,rfl⟩:=aS.mp a;exact FQ c b
 .have m:((bs.map Value.bool).toArray.toList.countP λy=>match y with|.bool c=>c==b|_=>false)=bs.countP (·==b):=by
   show((bs.map Value.bool).countP _)=_;rw[countP_map];rfl
  rw[m];exact⟨.int _,H,I.tok _,⟨_,rfl⟩,q⟩
noncomputable def IJ:V->Bn->Hp->VK->Prop:=λx vs H Q=>∃(l:Addr) (bs:Fn) (b:Bool) (j:Nat),x=.ref l/\vs=[.bl b]/\H l=some (.lst (bs.map V.bl))/\bs[j]?=some b/\(∀m c,m<j->bs[m]?=some c->c≠b)/\Q (.int (j:Nat)) H
theorem SX:mU X "list.index" IJ:=by
 intro ae s σ H x vs v D Q I o p h;obtain⟨l,bs,b,j,rfl,rfl,t,k,a,q⟩:=h;cases o;obtain⟨u,rfl,w⟩:=p.one;cases w;obtain⟨z,its,n,r,hl,e⟩:=I.kM t;have A:=CN r;subst A;have d:j<bs.length:=(bP.mp k).1;have hz:bs.length<=sizeLine:=by simpa using z
 refine jq F.slot_list_index ⟨_,e,rfl⟩ F.entry_list_index (F.args_list_index_2 _ _) (PySem.MeetsSeq.list_index l (bs.map Value.bool).toArray n (.bool b) (λy=>match y with|.bool c=>c==b|_=>false) (λy B=>?_) j (by simpa using d) ?_ ?_ λm C f=>?_) ⟨e,?_⟩
 .have g:y∈bs.map Value.bool:=by simpa using B
  obtain⟨c,_,rfl⟩:=aS.mp g;exact FQ c b
 .have:(sizeLine:Nat)<2 ^ 63 - 1:=δ
  omega
 .have:=(bP.mp k).2
  simp[this]
 .have i:m<bs.length:=by simpa using C
  have:=a m _ f (a_ i);simpa using this
 .exact⟨.int _,H,I.tok _,⟨_,rfl⟩,q⟩
end L2
end
namespace PySem
open Sem (wp)
namespace ZL
variable{prog:Program}{w:World}{A:Around}{E:aR}{s:Shared}
section
variable{z TI TO i1 i2 l1 l2:Addr}{xs ys:Array Value}
theorem M1{R:BM->Shared->Prop}(k:A.handled=none)(D:ZipApart z TI TO i1 i2 l1 l2)(L:mX z TI TO i1 i2 l1 l2 (s.heap.objs.size+1))(O:oj z TI TO i1 i2 l1 l2 (s.heap.objs.size+1) s.heap.objs.size)(m:min xs.size ys.size<=sizeLine)
  (n:ZS z TI TO i1 i2 l1 l2 (s.heap.objs.size+1) xs ys 0 (s.heap.push {cls:= .type "list",data:= .seq #[]}))
  (h:∀h':Heap,(∀(j:Nat) x y,xs[j]? =some x->ys[j]? =some y->IsPair h' (s.heap.objs.size+1+j) x y)->s.heap.objs.size<h'.objs.size->
   (∀b o,b≠z->b≠TO->b≠i1->b≠i2->s.heap.get? b=some o->h'.get? b=some o)->R (fE (s.heap.objs.size+1) (min xs.size ys.size)).toList {s with heap:=h'}):
  wpAny (model prog w) A (collect (.ref z)) R E s:=by
 unfold collect
 refine ah (wpAny_runValue (i9 PySem.F.entry_proto_collect ?_))
 rw[jL PySem.F.plain_proto_collect _]
 show wpAny _ A.in1 (newList []>>=λl=>again (.builtin "list.__iadd__" ⟨[l,.ref z],[]⟩)) _ _ s
 refine ah (gD ?_)
 refine aF ⟨kh yP _,i9 PySem.F.entry_list_iadd ?_⟩
 rw[jL yP _]
 have c:(s.heap.push {cls:= .type "list",data:= .seq ([]:BM).toArray}).get? s.heap.objs.size=some {cls:= .type "list",data:= .seq #[]}:=cy _ rfl
 show wpAny _ A.in1 (Builtin.List.listExtendWith (.ref s.heap.objs.size) (.ref z) (.ref s.heap.objs.size)) _ _ _
 have key:=F2 (prog:=prog) (w:=w) (A:=A) (s:={s with heap:=s.heap.push {cls:= .type "list",data:= .seq ([]:BM).toArray}})
  (R:=λ(q:Result) (s':Shared)=>∃(h':Heap) (c':Nat),q= .ok (.ret (.ref s.heap.objs.size))/\s'={s with heap:=h'}/\
   (∀(j:Nat) x y,xs[j]? =some x->ys[j]? =some y->IsPair h' (s.heap.objs.size+1+j) x y)/\h'.get? s.heap.objs.size=some {cls:= .type "list",dict:=none,data:= .seq (fE (s.heap.objs.size+1) (min xs.size ys.size)) c',slots:= #[]}/\
   ∀b o,b≠z->b≠TO->b≠i1->b≠i2->s.heap.get? b=some o->h'.get? b=some o)
  k D L O m (.ref s.heap.objs.size) 0 n c
  (λh' c' a1 a2 p=>⟨h',c',rfl,rfl,a1,a2,λb o r t u v e=>p b o (bJ (aW e)) r t u v (bu _ e)⟩)
 refine jK key (λfin s' x=> ?_) λe s' x=> ?_
 .cases fin with
  |done f=>
   obtain⟨h',c',e,rfl,d,a,g⟩:=x
   cases e
   show wpAny _ A (load s.heap.objs.size>>=_) _ _ _
   refine ah (wpAny_load a ?_)
   exact aF (h h' d (aW a) g)
  |again c₁=>
   refine⟨x.1,p_ x.2 λq i y=> ?_⟩
   obtain⟨h',c',rfl,rfl,d,a,g⟩:=y
   show wpAny _ A (load s.heap.objs.size>>=_) _ _ _
   refine ah (wpAny_load a ?_)
   exact aF (h h' d (aW a) g)
 .obtain⟨_,_,B,_⟩:=x
  cases B
theorem MZ{Q₁:aR}(g:A.handled=none)(i:s.TypeIs (.ref z) "zip")(D:ZipApart z TI TO i1 i2 l1 l2)(L:mX z TI TO i1 i2 l1 l2 (s.heap.objs.size+1))(O:oj z TI TO i1 i2 l1 l2 (s.heap.objs.size+1) s.heap.objs.size)(d:min xs.size ys.size<=sizeLine)
  (k:ZS z TI TO i1 i2 l1 l2 (s.heap.objs.size+1) xs ys 0 (s.heap.push {cls:= .type "list",data:= .seq #[]}))
  (h:∀h':Heap,(∀(j:Nat) x y,xs[j]? =some x->ys[j]? =some y->IsPair h' (s.heap.objs.size+1+j) x y)->s.heap.objs.size<h'.objs.size->
   (∀b o,b≠z->b≠TO->b≠i1->b≠i2->s.heap.get? b=some o->h'.get? b=some o)->Q₁ (.ref h'.objs.size) {s with heap:=h'.push {cls:= .type "tuple",data:= .seq (fE (s.heap.objs.size+1) (min xs.size ys.size))}}):
  codeAny (model prog w) A (.call (.builtin "tuple.__new__") ⟨[.type "tuple",.ref z],[]⟩) (wants Q₁ E) s:=by
 refine codeAny_of_tree ?_
 show wpAny _ A.in1 (do checkBuiltinCall "tuple.__new__" ⟨[.type "tuple",.ref z],[]⟩;again (.builtin "tuple.__new__" ⟨[.type "tuple",.ref z],[]⟩)) _ _ s
 refine ah (wpAny_of_eq (PySem.F.newCall_tuple_1 _) (aF ⟨kh PySem.F.plain_tuple_new _,i9 PySem.F.entry_tuple_new ?_⟩))
 rw[jL PySem.F.plain_tuple_new _]
 have f:=sub_tuple_self
 have a:=init_tuple_lookup
 have l:=madeHere_tuple
 wp_walk using lI i,M1 (A:=A.in1) g D L O d k
 intro h' m c n
 show wpAny _ _ (Builtin.Tuple.tupleExact (fE (s.heap.objs.size+1) (min xs.size ys.size)).toList.toArray>>=λv=>ret v) _ _ _
 unfold Builtin.Tuple.tupleExact
 refine ah (gD ?_ (by show(fE (s.heap.objs.size+1) (min xs.size ys.size)).toList.toArray.size<=sizeLine;simp only[yS];rw[B9];exact d))
 refine aF ?_
 have e:(fE (s.heap.objs.size+1) (min xs.size ys.size)).toList.toArray=fE (s.heap.objs.size+1) (min xs.size ys.size):=θ
 rw[e]
 exact h h' m c n
end
theorem Yg{l1 l2:Addr}{xs ys:Array Value}{Q:aR}(u:A.handled=none)(f:s.heap.IsList l1 xs)(g:s.heap.IsList l2 ys)(v:min xs.size ys.size<=sizeLine)
  (B:∀(h':Heap) (T:Addr),(∀(j:Nat) x y,xs[j]?=some x->ys[j]?=some y->IsPair h' (s.heap.objs.size+6+j) x y/\@LT.lt Nat _ (s.heap.objs.size+6+j) T)->@LT.lt Nat _ (s.heap.objs.size+5) T->
   h'.get? T=some {cls:=.type "tuple",data:=.seq (fE (s.heap.objs.size+6) (min xs.size ys.size))}->
   (∀b o,s.heap.get? b=some o->h'.get? b=some o)->Q (.ref T) {s with heap:=h'}):
  wpAny (model prog w) A (call (.type "zip") [.ref l1,.ref l2]) (λz c=>wpAny (model prog w) A (call (.type "tuple") [z]) Q E c) E s:=by
 have C: @LT.lt Nat _ l1 s.heap.objs.size:=by obtain⟨_,e,_⟩:=f;exact aW e
 have G: @LT.lt Nat _ l2 s.heap.objs.size:=by obtain⟨_,e,_⟩:=g;exact aW e
 refine call_zip_2 f g λa hz h i k l hsz m=>?_;have hsz: @Eq Nat a.objs.size (s.heap.objs.size+5):=hsz;have D:ZipApart (s.heap.objs.size+4) (s.heap.objs.size+2) (s.heap.objs.size+3) s.heap.objs.size (s.heap.objs.size+1) l1 l2:=by
  constructor<;>first|(show(_:Nat)<(_:Nat);omega)|(intro e;have r: @Eq Nat _ _:=e;omega)
 have L:mX (s.heap.objs.size+4) (s.heap.objs.size+2) (s.heap.objs.size+3) s.heap.objs.size (s.heap.objs.size+1) l1 l2 (a.objs.size+1):=by
  rw[hsz];constructor<;>first|(show(_:Nat)<(_:Nat);omega)|(intro e;have r: @Eq Nat _ _:=e;omega)
 have O:oj (s.heap.objs.size+4) (s.heap.objs.size+2) (s.heap.objs.size+3) s.heap.objs.size (s.heap.objs.size+1) l1 l2 (a.objs.size+1) a.objs.size:=by
  rw[hsz];constructor<;>first|(show(_:Nat)<(_:Nat);omega)|(intro e;have r: @Eq Nat _ _:=e;omega)
 have H:ZS (s.heap.objs.size+4) (s.heap.objs.size+2) (s.heap.objs.size+3) s.heap.objs.size (s.heap.objs.size+1) l1 l2 (a.objs.size+1) xs ys 0 (a.push {cls:=.type "list",data:=.seq #[]}):=
  ⟨.inl ⟨rfl,bu _ hz⟩,bu _ h,⟨_,_,bu _ i⟩,k.at λo e=>bu _ e,l.at λo e=>bu _ e,
   f.at λo e=>bu _ (m _ o e),g.at λo e=>bu _ (m _ o e),by rw[fB],λj x y I=>absurd I (Nat.not_lt_zero _)⟩
 refine callType_codes (Q₁:=λobj c=>c.TypeIs obj "tuple"/\Q obj c) called_tuple (PySem.F.typeCall_tuple_1 _) PySem.F.entry_object_init
  (MZ (s:={s with heap:=a}) (xs:=xs) (ys:=ys) u ⟨_,hz,rfl⟩ D L O v H λh' J n p=>⟨⟨_,cy _ rfl,rfl⟩,?_⟩) λobj c d=>?_
 .have t:a.objs.size+1=s.heap.objs.size+6:=by rw[hsz]
  have q:=B (h'.push {cls:=.type "tuple",data:=.seq (fE (s.heap.objs.size+6) (min xs.size ys.size))}) h'.objs.size (λj x y K M=>?_) (by rw[<-hsz];exact n) (cy _ rfl) λb o e=>?_
  .show Q (.ref h'.objs.size) {s with heap:=h'.push {cls:=.type "tuple",data:=.seq (fE (a.objs.size+1) (min xs.size ys.size))}}
   rw[t];exact q
  .have pr:=J j x y K M
   have pr:IsPair h' (a.objs.size+1+j) x y:=pr;rw[t] at pr;exact⟨bu _ pr,aW pr⟩
  .have N: @LT.lt Nat _ b s.heap.objs.size:=aW e
   have ne:∀j:Nat,b≠s.heap.objs.size+j:=λj z=>by have P: @Eq Nat b (s.heap.objs.size+j):=z;omega
   exact bu _ (p b o (ne 4) (ne 3) (ne 0) (ne 1) (m b o e))
 .exact⟨d.1,PySem.F.args_object_init_2 obj _,object_init_meets called_tuple.init.lookup called_tuple.made δ prog w A.in1 _ c ⟨d.1,rfl,d.2⟩⟩
end ZL
end PySem
section
open PySem PySem.Spec PyProof.Rows
namespace L2
variable{X:Cx}
def XX(K:Frag)(ta:TA):TE:=λσ H Q=>ta σ H λvs H1=>∃a b xs ys,vs=[.ref a,.ref b]/\aU K H1 a xs/\aU K H1 b ys/\
 ∀(l:Addr) (H':Hp) (ps:Bn),jb H1 H'->H1 l=none->H' l=some (.tup ps)->ps.length=min xs.length ys.length->(∀(j:Nat) p,ps[j]?=some p->∃t x y,p=.ref t/\xs[j]?=some x/\ys[j]?=some y/\H' t=some (.tup [x,y]))->Q (.ref l) H'
theorem UD{a b:Expr}{ta:TA}{p1 p2 C d:Pos}(S:Gl X "tuple")(U:X.mg "tuple"=none)(W:bootBuiltins "tuple"=some (.type "tuple"))(Y:Gl X "zip")(Z:X.mg "zip"=none)(hbz:bootBuiltins "zip"=some (.type "zip"))(hc:X.calm=true)(ha:PA X [a,b] ta)
  (hs:starEach [a,b] X.env=[(false,eval a X.env),(false,eval b X.env)]:=by rfl)(D:starEach [b] X.env=[(false,eval b X.env)]:=by rfl)
  (hz:starEach [.Call (.Name "zip" p2) [a,b] [] d] X.env=[(false,eval (.Call (.Name "zip" p2) [a,b] [] d) X.env)]:=by rfl):
  PE X (.Call (.Name "tuple" p1) [.Call (.Name "zip" p2) [a,b] [] d] [] C) (XX X.K ta):=by
 intro ae s σ H Q I h
 refine lH (jB I S U W ?_)
 refine mJ ?_ hz rfl
 rw[hz]
 refine yN (lH (jB I Y Z hbz (mJ (aN (ha d ae s σ H _ I h) λus c ⟨vs,H1,i,r1,q1⟩=> ?_) (by rw[hs,D]) (by rw[D];rfl))))
 obtain⟨pa,pb,xs,ys,e,hx,hy,q⟩:=q1
 subst e
 obtain⟨u1,u2,rfl,VM,VN⟩:=vals2 r1
 cases VM
 cases VN
 obtain⟨F,k,UR,hz1⟩:=i.list hx
 obtain⟨G,m,BS,hz2⟩:=i.list hy
 have l1:=k.length
 have l2:=m.length
 refine aN (ZL.Yg (E:=X.xe) (Q:=EP X ae σ Q) (i.ok.hd hc) UR.isList BS.isList (by simp only[bT];omega) λh' T J n hS kp=> ?_) λz s2 hq=>yO hq
 have em:min F.toArray.size G.toArray.size=min xs.length ys.length:=by simp only[bT];omega
 rw[em] at hS
 have hn:∀j:Nat,H1 (c.heap.objs.size+j)=none:=λj=>i.ar.fresh (lz _ _)
 have QD:∀j:Nat,j<min xs.length ys.length->@LT.lt Nat _ (c.heap.objs.size+6+j) T:=λj hj=>by
  have f:xs[j]? =some (xs[j]' ω):=a_ _
  have g:ys[j]? =some (ys[j]' ω):=a_ _
  obtain⟨u,hu,_⟩:=k.get f
  obtain⟨v,hv,_⟩:=m.get g
  exact(J j u v (by simpa using hu) (by simpa using hv)).2
 have QE:H1 T=none:=i.ar.fresh (by show @LE.le Nat _ c.heap.objs.size T;have: @LT.lt Nat _ (c.heap.objs.size+5) T:=n;omega)
 have pair:∀j:Nat,j<min xs.length ys.length->∃x y u v,xs[j]? =some x/\ys[j]? =some y/\RelV x u/\RelV y v/\IsPair h' (c.heap.objs.size+6+j) u v:=λj hj=>by
  have f:xs[j]? =some (xs[j]' ω):=a_ _
  have g:ys[j]? =some (ys[j]' ω):=a_ _
  obtain⟨u,hu,ru⟩:=k.get f
  obtain⟨v,hv,t⟩:=m.get g
  exact⟨_,_,u,v,f,g,ru,t,(J j u v (by simpa using hu) (by simpa using hv)).1⟩
 let H':Hp:=λb=>if b=T then some (.tup ((range (min xs.length ys.length)).map λj=>V.ref (c.heap.objs.size+6+j))) else
  if c.heap.objs.size+6<=b/\b - (c.heap.objs.size+6)<min xs.length ys.length then some (.tup [(xs[b - (c.heap.objs.size+6)]?).getD .aG,(ys[b - (c.heap.objs.size+6)]?).getD .aG]) else H1 b
 have L:H' (T)=some (.tup ((range (min xs.length ys.length)).map λj=>V.ref (c.heap.objs.size+6+j))):=by
  show(if _ then _ else _)=_
  rw[aC rfl]
 have M:∀(j:Nat) x y,xs[j]? =some x->ys[j]? =some y->H' (c.heap.objs.size+6+j)=some (.tup [x,y]):=λj x y A B=>by
  have j1:=(bP.mp A).1
  have j2:=(bP.mp B).1
  have N:c.heap.objs.size+6+j - (c.heap.objs.size+6)=j:=Nat.add_sub_cancel_left _ _
  have O:j<min xs.length ys.length:=Nat.lt_min.mpr ⟨j1,j2⟩
  show(if _ then _ else if _ then _ else _)=_
  rw[ay (λz=>by have z': @Eq Nat (c.heap.objs.size+6+j) (T):=z;have:=QD j O;omega),aC ⟨lz _ _,by rw[N];exact O⟩,N,A,B]
  rfl
 have hold:jb H1 H':=λb o e=>by
  have hb: @LT.lt Nat _ b c.heap.objs.size:=i.ar.lt e
  show(if _ then _ else if _ then _ else _)=_
  rw[ay (λz=>by have z': @Eq Nat b (T):=z;have: @LT.lt Nat _ (c.heap.objs.size+5) T:=n;omega),ay (λz=>by have z': @LE.le Nat _ (c.heap.objs.size+6) b:=z.1;omega)]
  exact e
 have P:∀b o,H' b=some o->H1 b=some o\/(c.heap.objs.size<=b/\cg X.prog X.w H' h' b o):=λb o e=>by
  by_cases hb:b=T
  .subst hb
   rw[L] at e
   cases e
   refine .inr ⟨by show @LE.le Nat _ c.heap.objs.size b;have: @LT.lt Nat _ (c.heap.objs.size+5) b:=n;omega,by rw[aQ,rL];omega,(range (min xs.length ys.length)).map λj=>Value.ref (c.heap.objs.size+6+j),?_,⟨_,hS⟩⟩
   have:∀l:B2,Vals (l.map λj=>V.ref (c.heap.objs.size+6+j)) (l.map λj=>Value.ref (c.heap.objs.size+6+j)):=λl=>by
    induction l with
    |nil=>exact .nil
    |cons j r ih=>exact .cons rfl ih
   exact this _
  .by_cases R:c.heap.objs.size+6<=b/\b - (c.heap.objs.size+6)<min xs.length ys.length
   .obtain⟨g1,g2⟩:=R
    have eb:b=c.heap.objs.size+6+(b - (c.heap.objs.size+6)):=(Nat.add_sub_cancel' g1).symm
    obtain⟨x,y,u,v,A,B,ru,t,pr⟩:=pair _ g2
    rw[eb,M _ x y A B] at e
    cases e
    refine .inr ⟨dF (lz _ 6) g1,by show 2<=sizeLine;decide,[u,v],.cons ru (.cons t .nil),?_⟩
    rw[eb]
    exact⟨_,pr⟩
   .left
    have e':(if b=T then some (HO.tup ((range (min xs.length ys.length)).map λj=>V.ref (c.heap.objs.size+6+j))) else
     if c.heap.objs.size+6<=b/\b - (c.heap.objs.size+6)<min xs.length ys.length then some (.tup [(xs[b - (c.heap.objs.size+6)]?).getD .aG,(ys[b - (c.heap.objs.size+6)]?).getD .aG]) else H1 b)=some o:=e
    rw[ay hb,ay R] at e'
    exact e'
 refine⟨.ref (T),H',i.many (h':=h') (t':=c.toks) kp hold P,rfl,q _ H' _ hold QE L (by rw[aQ,rL]) λj p e=> ?_⟩
 rw[bM] at e
 cases er:(range (min xs.length ys.length))[j]? with
 |none=>rw[er] at e;cases e
 |some j'=>
  rw[er] at e
  obtain⟨hj,N⟩:=bP.mp er
  rw[List.getElem_range] at N
  subst N
  cases e
  have hj':j<min xs.length ys.length:=by simpa using hj
  obtain⟨x,y,u,v,A,B,_⟩:=pair j hj'
  exact⟨_,x,y,rfl,A,B,M j x y A B⟩
theorem Cn:∀{vs:BM} {ss:Ap},vs.length=ss.length->(∀(i:Nat) v x,vs[i]?=some v->ss[i]?=some x->∃t,v=Value.str x t)->StrsAre vs ss
 |[],[],_,_=>.nil
 |v::vs,x::ss,hl,h=>by
  obtain⟨t,rfl⟩:=h 0 v x rfl rfl;exact .cons x t (Cn (by simpa using hl) λi a b c d=>h (i+1) a b (by simpa using c) (by simpa using d))
theorem KV.at{kvs:List (Key×V)}{vs:List (Key×Value)}(r:KV kvs vs):∀{i:Nat} {q:Key×Value},vs[i]?=some q->∃p,kvs[i]?=some p/\p.1=q.1/\RelV p.2 q.2:=by
 induction r with
 |nil=>intro i q h;simp at h
 |cons h1 h2 a=>
  intro i q h;cases i with
  |zero=>simp at h;subst h;exact⟨_,rfl,h1⟩
  |succ i=>exact a (by simpa using h)
theorem KV.len{kvs:List (Key×V)}{vs:List (Key×Value)}(r:KV kvs vs):kvs.length=vs.length:=by
 induction r with
 |nil=>rfl
 |cons h1 h2 a=>simp[a]
theorem Inv.BB{ae:bh}{σ:St}{H H':Hp}{s:Shared}{h':Heap}{t':Nat}(I:Inv X ae σ H s)(kp:∀b o,s.heap.get? b=some o->h'.get? b=some o)(d:jb H H')
  (a:∀b o,H' b=some o->H b=some o\/((∀u,s.heap.get? b≠some u)/\cg X.prog X.w H' h' b o)):Inv X ae σ H' {s with heap:=h',toks:=t'}:=by
 refine I.un (h':=h') (t':=t') ⟨λb o q _ _ _=>kp b o q,λb o q _ _ _=>⟨o.slots,kp b o q⟩,λb o q n _=>?_,λb o q _=>⟨o,kp b o q⟩,λb xs q=>d _ _ q,λb o u q=>d _ _ q,λb ps q=>⟨#[],by rw[d _ _ q];simp⟩⟩ λb o q=>?_
 .cases e:H' b with
  |none=>rfl
  |some u=>
   rcases a b u e with z|⟨z,_⟩
   .rw[n] at z;cases z
   .exact absurd q (z _)
 .rcases a b o q with z|⟨_,z⟩
  .exact(I.ar b o z).stay (λc v _ r=>kp c v r) (λc r=>d _ _ r) λc xs r=>d _ _ r
  .exact z
theorem ML(hc:X.calm=true):eG X (.builtin "sorted") (λxs H Q=>∃(d:Addr) (kvs:List (Key×V)) (ns:Ap),xs=[.ref d]/\H d=some (.dK kvs)/\kvs.map (·.1)=ns.map Sum.inr/\ns.Nodup/\ns.length<64/\
  ∀(l:Addr) (ys:Ap),H l=none->ys.Pairwise strLt->(∀x,x∈ys↔x∈ns)->Q (.ref l) (ax H l (.lst (ys.map V.str)))):=by
 intro ae s σ H xs us Q I r h;obtain⟨d,kvs,ns,rfl,hd,M,G,B,q⟩:=h;obtain⟨u,rfl,U⟩:=vals1 r;cases U;obtain⟨hz,Y,vs,rel,dd⟩:=(show cg X.prog X.w H s.heap d (.dK kvs) from I.ar d _ hd);obtain⟨ep,J⟩:=dd.dictAt;have C:kvs.length=ns.length:=by
  have:=cB List.length M;simpa using this
 have c:vs.length=ns.length:=by rw[<-rel.len,C]
 refine CT kind_sorted plain_sorted entry_sorted (args_sorted1 _) ?_;unfold Builtin.«sorted»;refine ah (m:=checkCount "sorted" 1 1 _) (aF ?_);refine ah (PySem.W.kdu_collect (A:=X.A.in1) (kdl_dict (knd:=dD X.prog X.w) (kvs:=vs) (ep:=ep) Y) (I.ok.hd hc) J (by rw[c];omega) λh1 tk acc k1 a=>?_);have f:StrsAre acc.toList ns:=by
  refine Cn (by rw[gA,a.1,c]) λi v x N Z=>?_;rw[nG] at N;obtain⟨k,y,e3,O⟩:=a.2 i v N;obtain⟨p,e5,e6,_⟩:=rel.at e3;have P:(kvs.map (·.1))[i]?=some k:=by rw[bM,e5];exact cB some e6
  rw[M,bM,Z] at P;have e8:k=Sum.inr x:=(Option.some.inj P).symm;rw[e8] at O;rcases jh (show kK (Sum.inr x) v=true from O) with⟨_,_,z,_⟩|⟨x',t,z,z2⟩
  .cases z
  .cases z;exact⟨t,z2⟩
 have K:acc.toList.length<64:=by rw[gA,a.1,c];exact B
 refine ah (yX ?_);have g:(h1.push (seqObj "list" acc.toList.toArray 0)).get? h1.objs.size=some (seqObj "list" acc.toList.toArray 0):=cy _ rfl;show wpAny _ _ _ _ _ {s with heap:=h1.push (seqObj "list" acc.toList.toArray 0),toks:=tk};refine ah (gn (jo slot_list_sort ⟨_,g,rfl⟩ entry_list_sort (list_sort_treeK strKind_oneLt g f.keysOf (λR S rest e=>keyKind_strs (by rw[<-e];exact f)) K λj a1 a2=>⟨_,rfl,?_⟩) (args_list_sort _)));obtain⟨D,q1,L,q3⟩:=sorted_out_str f a1 a2;obtain⟨e,he⟩:=sortedHeap_at (out:=(arrOf j).map (·.2)) g;have kp:∀b o,s.heap.get? b=some o->(sortedHeap (h1.push (seqObj "list" acc.toList.toArray 0)) h1.objs.size acc.toList ((arrOf j).map (·.2))).get? b=some o:=λb o q=>by
  have n:=k1 b o q;rw[sortedHeap_old (bJ (aW n)) (by rw[pR];exact gm (aW n))];exact bu _ n
 have E:∀u,s.heap.get? h1.objs.size≠some u:=λu z=>fJ _ (aW (k1 _ _ z));have T:H h1.objs.size=none:=by
  cases e0:H h1.objs.size with
  |none=>rfl
  |some o=>
   obtain⟨u,z⟩:=(I.ar _ _ e0).obj;exact absurd z (E u)
 refine aF ⟨_,rfl,.ref h1.objs.size,ax H h1.objs.size (.lst (D.map V.str)),?_,rfl,q _ D T (KY (KI q3) (L.nodup_iff.mpr G)) λx=>L.mem_iff⟩;refine I.BB (t':=tk) kp (jb.new T _) λb o F=>?_;by_cases n:b=h1.objs.size
 .subst n
  rw[d9] at F;cases F;refine .inr ⟨E,?_⟩;refine⟨by rw[aQ,L.length_eq];exact j_ (cY B δ),((arrOf j).map (·.2)).toList,e,yI q1,?_⟩;rw[yS];exact he
 .rw[aX n] at F
  exact .inl F
end L2
end
namespace MA
theorem Hh{b d:Int}(g:0<b)(hd:0<d):0<b*d/(Int.gcd b d:Int)/\b∣b*d/(Int.gcd b d:Int)/\d∣b*d/(Int.gcd b d:Int)/\b*d/(Int.gcd b d:Int)<=b*d:=by
 have i:0<(Int.gcd b d:Int):=by
  have:0<Int.gcd b d:=Int.gcd_pos_of_ne_zero_right _ ω;omega
 obtain⟨a,c⟩:=gcd_dvd_left b d;obtain⟨d',e⟩:=Int.gcd_dvd_right b d;have f:b*d/(Int.gcd b d:Int)=a*d:=by
  conv=>lhs;lhs;lhs;rw[c]
  rw[lC,yZ _ ω]
 have j:b*d/(Int.gcd b d:Int)=b*d':=by
  conv=>lhs;lhs;rhs;rw[e]
  rw[nO (Int.gcd b d:Int) d',<-lC,Int.mul_ediv_cancel _ ω]
 refine⟨?_,⟨d',j⟩,⟨a,by rw[f,nO]⟩,r_ _ (dO (cT g hd))⟩;rw[f];refine cT ?_ hd;rcases Int.lt_or_le 0 a with h|h
 .exact h
 .have:(Int.gcd b d:Int)*a<=0:=Int.mul_nonpos_of_nonneg_of_nonpos (dO i) h
  omega
def bot:Fs->Int->Int
 |[],b=>b
 |x::r,b=>bot r (b*(rf x).2/(Int.gcd b (rf x).2:Int))
theorem ow:∀(xs:Fs) (b:Int),0<b->0<bot xs b/\b∣bot xs b/\∀x∈xs,(rf x).2∣bot xs b
 |[],b,h=>⟨h,Int.dvd_refl _,θ⟩
 |x::r,b,h=>by
  obtain⟨h1,h2,c,_⟩:=Hh h (ck x);obtain⟨d,a,e⟩:=ow r _ h1;refine⟨d,dvd_trans h2 a,λy hy=>?_⟩;rcases bx.mp hy with rfl|hy
  .exact dvd_trans c a
  .exact e y hy
theorem bot_le(D:Int)(c:1<=D):∀(xs:Fs) (b:Int),0<b->(∀x∈xs,(rf x).2<=D)->bot xs b<=b*D ^ xs.length
 |[],b,_,_=>by simp[bot]
 |x::r,b,h,a=>by
  obtain⟨h1,h2,f,d⟩:=Hh h (ck x);have:=bot_le D c r _ h1 λy e=>a y (bz _ e);refine eN this ?_;rw[iw,jn,nO (D ^ r.length) D,<-lC];refine y_ ?_ (mL ω);exact eN d (pY (a x θ) (dO h))
def eY:DD->Int->Int
 |[],d=>d
 |n::r,d=>eY r (Int.gcd d n:Int)
theorem tG:∀(ns:DD) (d:Int),0<=d->0<=eY ns d/\eY ns d∣d/\(∀n∈ns,eY ns d∣n)/\∀k,k∣d->(∀n∈ns,k∣n)->k∣eY ns d
 |[],d,h=>⟨h,Int.dvd_refl _,θ,λk a _=>a⟩
 |n::r,d,h=>by
  obtain⟨e,b,f,g⟩:=tG r (Int.gcd d n:Int) ω;refine⟨e,dvd_trans b (gcd_dvd_left d n),λm hm=>?_,λk a c=>g k (Int.dvd_coe_gcd a (c n θ)) λm hm=>c m (bz _ hm)⟩;rcases bx.mp hm with rfl|hm
  .exact dvd_trans b (Int.gcd_dvd_right d m)
  .exact f m hm
theorem wg{ns:DD}{d:Int}(h:0<=d){n:Int}(a:n∈ns)(b:0<n):0<eY ns d/\eY ns d<=n:=by
 obtain⟨f,g,c,i⟩:=tG ns d h;have hd:=c n a;have hle:=le_of_dvd b hd;refine⟨?_,hle⟩;rcases Int.lt_or_le 0 (eY ns d) with z|z
 .exact z
 .have e:eY ns d=0:=ω
  rw[e] at hd;have:=Int.zero_dvd.mp hd;omega
def ups(xs:Fs):DD:=xs.map λx=>(rf x).1*(bot xs 1/(rf x).2)
def lw(xs:Fs):DD:=(ups xs).map (·/eY (ups xs) 0)
theorem Yx{xs:Fs}{x:Rat}(a:x∈xs):(((rf x).1*(bot xs 1/(rf x).2):Int):Rat)=(bot xs 1:Rat)*x:=by
 obtain⟨h1,_,b⟩:=ow xs 1 δ;obtain⟨k,c⟩:=b x a;have d:=iO (gR (ck x));rw[c,yZ _ (gR (ck x)),gU,gU];have e:=iJ x;grind
theorem yH{xs:Fs}{x:Rat}(a:x∈xs)(b:0<x):0<(rf x).1*(bot xs 1/(rf x).2):=by
 obtain⟨h1,_,c⟩:=ow xs 1 δ;refine cT (cW b) ?_;exact Int.ediv_pos_of_pos_of_dvd h1 (dO (ck x)) (c x a)
theorem Hv(xs:Fs):(lw xs).length=xs.length:=by simp[lw,ups]
theorem Sm{xs:Fs}(f:∀x∈xs,0<x)(b:xs≠[]):∃c:Rat,0<c/\(lw xs).map (λn:Int=>(n:Rat))=xs.map (c*·):=by
 obtain⟨x0,a⟩:∃x,x∈xs:=by
  cases xs with
  |nil=>exact absurd rfl b
  |cons x r=>exact⟨x,θ⟩
 have m0:(rf x0).1*(bot xs 1/(rf x0).2)∈ups xs:=aS.mpr ⟨x0,a,rfl⟩;obtain⟨d,_⟩:=wg (pX 0) m0 (yH a (f x0 a));obtain⟨_,_,g,_⟩:=tG (ups xs) 0 (pX 0);have h:=iO (gR d);obtain⟨i,_,_⟩:=ow xs 1 δ;refine⟨(bot xs 1:Rat)/(eY (ups xs) 0:Rat),?_,?_⟩
 .rw[vd]
  exact mQ (by exact_mod_cast i) (Rat.inv_pos.mpr (by exact_mod_cast d))
 .unfold lw
  rw[bH];conv=>lhs;rw[show ups xs=xs.map (λx=>(rf x).1*(bot xs 1/(rf x).2)) from rfl]
  rw[bH];refine rN λx e=>?_;have j:(rf x).1*(bot xs 1/(rf x).2)∈ups xs:=aS.mpr ⟨x,e,rfl⟩;obtain⟨k,l⟩:=g _ j;have ev:=Yx e;show((((rf x).1*(bot xs 1/(rf x).2))/eY (ups xs) 0:Int):Rat)=_;rw[l] at ev ⊢;rw[yZ _ (gR d)];rw[gU] at ev;grind
theorem Sl{xs:Fs}(d:∀x∈xs,0<x):∀n∈lw xs,1<=n:=by
 intro n e;obtain⟨u,b,rfl⟩:=aS.mp e;obtain⟨x,c,rfl⟩:=aS.mp b;have a:=yH c (d x c);obtain⟨f,gl⟩:=wg (pX 0) b a;have:=(Int.le_ediv_iff_mul_le f).mpr (by rw[one_mul];exact gl:1*eY (ups xs) 0<=_);exact this
theorem Sk{xs:Fs}(f:∀x∈xs,0<x)(b:xs≠[]){k:Int}(g:∀n∈lw xs,k∣n):k∣1:=by
 obtain⟨x0,a⟩:∃x,x∈xs:=by
  cases xs with
  |nil=>exact absurd rfl b
  |cons x r=>exact⟨x,θ⟩
 have m0:(rf x0).1*(bot xs 1/(rf x0).2)∈ups xs:=aS.mpr ⟨x0,a,rfl⟩;obtain⟨c,_⟩:=wg (pX 0) m0 (yH a (f x0 a));obtain⟨_,_,l,m⟩:=tG (ups xs) 0 (pX 0);have h:eY (ups xs) 0*k∣eY (ups xs) 0:=by
  refine m _ (Int.dvd_zero _) λn d=>?_;obtain⟨j,e⟩:=l n d;have h1:n/eY (ups xs) 0∈lw xs:=aS.mpr ⟨n,d,rfl⟩;obtain⟨i,hi⟩:=g _ h1;rw[e,yZ _ (gR c)] at hi;exact⟨i,by rw[e,hi,lC]⟩
 obtain⟨i,hi⟩:=h;refine⟨i,?_⟩;have:eY (ups xs) 0*1=eY (ups xs) 0*(k*i):=by rw[Int.mul_one,<-lC];exact hi
 exact Int.eq_of_mul_eq_mul_left (gR c) this
end MA
section
open PySem PySem.Spec PyProof.Rows
namespace L2
inductive D where
 |aG|bl (b:Bool)|int (i:Int)|str (x:Str)|tup (xs:List D)|ref (r:Nat)|fl (xs:DD)|exc (c:Str)
abbrev _root_.Bi:=List D
inductive C where
 |lst (xs:Bi)|dct (kvs:List (Key×D))|bV (o:Obj) (kvs:List (Key×D))|ins (cl:Str) (fs:List (Str×D))
abbrev Ar:=List C
abbrev Io:=Nat->Addr
section
variable(mg:aA)
mutual
def RV(ι:Io)(n:Nat)(H:Hp):D->V->Prop
 |.aG,v=>v=.aG
 |.bl b,v=>v=.bl b
 |.int i,v=>v=.int i
 |.str x,v=>v=.str x
 |.tup ds,v=>∃a xs,v=.ref a/\H a=some (.tup xs)/\ao ι n H ds xs
 |.ref r,v=>r<n/\v=.ref (ι r)
 |.fl ns,v=>∃a o,v=.ref a/\H a=some (.bZ o (.lst (ns.map V.int)))
 |.exc c,v=>∃a C,v=.ref a/\mg c=some (.ref C)/\H a=some (qG a C)
def ao(ι:Io)(n:Nat)(H:Hp):Bi->Bn->Prop
 |[],xs=>xs=[]
 |d::ds,xs=>∃x r,xs=x::r/\RV ι n H d x/\ao ι n H ds r
end
noncomputable def RK(ι:Io)(n:Nat)(H:Hp):List (Key×D)->List (Key×V)->Prop
 |[],xs=>xs=[]
 |p::ds,xs=>∃x r,xs=(p.1,x)::r/\RV mg ι n H p.2 x/\RK ι n H ds r
noncomputable def RF(ι:Io)(n:Nat)(H:Hp):List (Str×D)->List (Str×V)->Prop
 |[],xs=>xs=[]
 |p::ds,xs=>∃x r,xs=(p.1,x)::r/\RV mg ι n H p.2 x/\RF ι n H ds r
noncomputable def CO(ι:Io)(n:Nat)(H:Hp)(a:Addr):C->Prop
 |.lst ds=>∃xs,H a=some (.lst xs)/\ao mg ι n H ds xs
 |.dct kvs=>∃xs,H a=some (.dK xs)/\RK mg ι n H kvs xs
 |.bV o kvs=>∃xs,H a=some (.bZ o (.dK xs))/\RK mg ι n H kvs xs
 |.ins cl fs=>∃Cc dx xs,mg cl=some (.ref Cc)/\H a=some (.ins Cc dx xs)/\RF mg ι n H fs xs
structure RA(ι:Io)(H:Hp)(A:Ar):Prop where
 iP:∀r c,A[r]? =some c->CO mg ι A.length H (ι r) c
 inj:∀r q,r<A.length->q<A.length->ι r=ι q->r=q
end
def jD:HO->Bool
 |.lst _|.dK _|.bZ _ (.dK _)|.ins _ _ _=>true
 |_=>false
structure Ext(A:Ar)(ι:Io)(H:Hp)(A':Ar)(ι':Io)(H':Hp):Prop where
 len:A.length<=A'.length
 ag:∀r,r<A.length->ι' r=ι r
 im:∀r,r<A.length->∃o,H (ι r)=some o/\jD o=true
 mo:∀b o,H b=some o->(∀r,r<A.length->ι r≠b)->H' b=some o
 nw:∀r,A.length<=r->r<A'.length->H (ι' r)=none
 al:∀b o,H b=some o->∃o',H' b=some o'
theorem Ext.fix{A A':Ar}{ι ι':Io}{H H':Hp}(e:Ext A ι H A' ι' H'){b:Addr}{o:HO}(a:jD o=false)(h:H b=some o):H' b=some o:=e.mo b o h λr c z=>by
 obtain⟨u,h1,h2⟩:=e.im r c;rw[z,h] at h1;cases h1;rw[a] at h2;cases h2
theorem Ext.trans{A f g:Ar}{ι e d:Io}{H H1 H2:Hp}(a:Ext A ι H f e H1)(b:Ext f e H1 g d H2):Ext A ι H g d H2 where
 len:=dF a.len b.len
 ag:=λr h=>(b.ag r (cY h a.len)).trans (a.ag r h)
 im:=a.im
 mo:=λc o h i=>b.mo c o (a.mo c o h i) λr j z=>by
  by_cases hl:r<A.length
  .rw[a.ag r hl] at z;exact i r hl z
  .have:=a.nw r ω j
   rw[z,h] at this;cases this
 nw:=λr h1 h2=>by
  by_cases hl:r<f.length
  .rw[b.ag r hl];exact a.nw r h1 hl
  .have n1:=b.nw r ω h2
   cases q:H (d r) with
   |none=>rfl
   |some o=>
    obtain⟨o',h'⟩:=a.al _ o q
    rw[h'] at n1;cases n1
 al:=λc o h=>by
  obtain⟨k,h1⟩:=a.al c o h
  exact b.al c k h1
section
variable{mg:aA}{A A':Ar}{ι ι':Io}{H H':Hp}
section
variable{n n':Nat}
mutual
theorem RV.ag(k:n<=n')(e:∀r,r<n->ι' r=ι r)(i:∀b o,jD o=false->H b=some o->H' b=some o):∀(d:D) (v:V),RV mg ι n H d v->RV mg ι' n' H' d v
 |.aG,_,h=>h
 |.bl _,_,h=>h
 |.int _,_,h=>h
 |.str _,_,h=>h
 |.tup ds,v,h=>by
  obtain⟨a,xs,f,g,j⟩:=h;exact⟨a,xs,f,i _ _ rfl g,ao.ag k e i ds xs j⟩
 |.ref r,v,h=>⟨cY h.1 k,by rw[e r h.1];exact h.2⟩
 |.fl ns,v,h=>by
  obtain⟨a,o,f,g⟩:=h;exact⟨a,o,f,i _ _ rfl g⟩
 |.exc c,v,h=>by
  obtain⟨a,C,f,g,j⟩:=h;exact⟨a,C,f,g,i _ _ rfl j⟩
theorem ao.ag(c:n<=n')(a:∀r,r<n->ι' r=ι r)(e:∀b o,jD o=false->H b=some o->H' b=some o):∀(ds:Bi) (vs:Bn),ao mg ι n H ds vs->ao mg ι' n' H' ds vs
 |[],_,h=>h
 |d::ds,vs,h=>by
  obtain⟨x,r,f,g,i⟩:=h;exact⟨x,r,f,RV.ag c a e d x g,ao.ag c a e ds r i⟩
end
theorem RK.ag(c:n<=n')(a:∀r,r<n->ι' r=ι r)(e:∀b o,jD o=false->H b=some o->H' b=some o):∀(ds:List (Key×D)) (vs:List (Key×V)),RK mg ι n H ds vs->RK mg ι' n' H' ds vs
 |[],_,h=>h
 |d::ds,vs,h=>by
  obtain⟨x,r,f,g,i⟩:=h;exact⟨x,r,f,RV.ag c a e _ x g,RK.ag c a e ds r i⟩
theorem RF.ag(c:n<=n')(a:∀r,r<n->ι' r=ι r)(e:∀b o,jD o=false->H b=some o->H' b=some o):∀(ds:List (Str×D)) (vs:List (Str×V)),RF mg ι n H ds vs->RF mg ι' n' H' ds vs
 |[],_,h=>h
 |d::ds,vs,h=>by
  obtain⟨x,r,f,g,i⟩:=h;exact⟨x,r,f,RV.ag c a e _ x g,RF.ag c a e ds r i⟩
theorem CO.ag{a:Addr}(g:n<=n')(d:∀r,r<n->ι' r=ι r)(i:∀b o,jD o=false->H b=some o->H' b=some o)(j:∀o,H a=some o->H' a=some o):∀(c:C),CO mg ι n H a c->CO mg ι' n' H' a c
 |.lst ds,h=>by
  obtain⟨xs,e,f⟩:=h;exact⟨xs,j _ e,ao.ag g d i ds xs f⟩
 |.dct ds,h=>by
  obtain⟨xs,e,f⟩:=h;exact⟨xs,j _ e,RK.ag g d i ds xs f⟩
 |.bV o ds,h=>by
  obtain⟨xs,e,f⟩:=h;exact⟨xs,j _ e,RK.ag g d i ds xs f⟩
 |.ins cl ds,h=>by
  obtain⟨k,dx,xs,l,e,f⟩:=h;exact⟨k,dx,xs,l,j _ e,RF.ag g d i ds xs f⟩
end
theorem RV.ext(e:Ext A ι H A' ι' H')(d:D)(v:V)(h:RV mg ι A.length H d v):RV mg ι' A'.length H' d v:=RV.ag e.len e.ag (λ_ _ m h=>e.fix m h) d v h
theorem ao.ext(e:Ext A ι H A' ι' H')(d:Bi)(v:Bn)(h:ao mg ι A.length H d v):ao mg ι' A'.length H' d v:=ao.ag e.len e.ag (λ_ _ m h=>e.fix m h) d v h
theorem RK.ext(e:Ext A ι H A' ι' H')(d:List (Key×D))(v:List (Key×V))(h:RK mg ι A.length H d v):RK mg ι' A'.length H' d v:=RK.ag e.len e.ag (λ_ _ m h=>e.fix m h) d v h
theorem CO.ext{a:Addr}(e:Ext A ι H A' ι' H')(b:∀o,H a=some o->H' a=some o)(c:C)(h:CO mg ι A.length H a c):CO mg ι' A'.length H' a c:=CO.ag (a:=a) (H:=H) (H':=H') e.len e.ag (λ_ _ m h=>e.fix m h) b c h
theorem ao.length:∀{ds:Bi} {vs:Bn} {n:Nat},ao mg ι n H ds vs->ds.length=vs.length
 |[],vs,_,h=>by have h':vs=[]:=h;rw[h'];rfl
 |d::ds,vs,n,h=>by
  obtain⟨x,r,rfl,_,a⟩:=h;simp[ao.length a]
theorem ao.get:∀{ds:Bi} {vs:Bn} {n i:Nat} {d:D},ao mg ι n H ds vs->ds[i]?=some d->∃v,vs[i]?=some v/\RV mg ι n H d v
 |[],_,_,_,_,_,e=>by simp at e
 |d::ds,vs,n,0,d',h,e=>by
  obtain⟨x,r,rfl,a,_⟩:=h;simp at e;subst e;exact⟨x,rfl,a⟩
 |d::ds,vs,n,i+1,d',h,e=>by
  obtain⟨x,r,rfl,_,b⟩:=h;obtain⟨v,h1,h2⟩:=ao.get (i:=i) b (by simpa using e);exact⟨v,by simpa using h1,h2⟩
theorem ao.app:∀{ds es:Bi} {vs ws:Bn} {n:Nat},ao mg ι n H ds vs->ao mg ι n H es ws->ao mg ι n H (ds++es) (vs++ws)
 |[],_,vs,_,_,h,q=>by have h':vs=[]:=h;rw[h'];exact q
 |d::ds,es,vs,ws,n,h,q=>by
  obtain⟨x,r,rfl,a,b⟩:=h;exact⟨x,r++ws,rfl,a,ao.app b q⟩
theorem ao.take:∀{ds:Bi} {vs:Bn} {n:Nat} (k:Nat),ao mg ι n H ds vs->ao mg ι n H (ds.take k) (vs.take k)
 |ds,vs,n,0,h=>by simp[ao]
 |[],vs,n,k+1,h=>by have h':vs=[]:=h;rw[h'];simp[ao]
 |d::ds,vs,n,k+1,h=>by
  obtain⟨x,r,rfl,a,b⟩:=h;exact⟨x,r.take k,rfl,a,ao.take k b⟩
theorem ao.drop:∀{ds:Bi} {vs:Bn} {n:Nat} (k:Nat),ao mg ι n H ds vs->ao mg ι n H (ds.drop k) (vs.drop k)
 |ds,vs,n,0,h=>by simpa using h
 |[],vs,n,k+1,h=>by have h':vs=[]:=h;rw[h'];simp[ao]
 |d::ds,vs,n,k+1,h=>by
  obtain⟨x,r,rfl,b,a⟩:=h;exact ao.drop k a
theorem RA.im(R:RA mg ι H A):∀r,r<A.length->∃o,H (ι r)=some o/\jD o=true:=λr h=>by
 obtain⟨c',b⟩:∃c',A[r]?=some c':=⟨A[r],by rw[a_ h]⟩;have:=R.iP r c' b;cases c' with
 |lst ds=>obtain⟨xs,a,_⟩:=this;exact⟨_,a,rfl⟩
 |dct ds=>obtain⟨xs,a,_⟩:=this;exact⟨_,a,rfl⟩
 |bV o ds=>obtain⟨xs,a,_⟩:=this;exact⟨_,a,rfl⟩
 |ins cl ds=>obtain⟨c,dx,xs,_,a,_⟩:=this;exact⟨_,a,rfl⟩
theorem RA.refl(R:RA mg ι H A):Ext A ι H A ι H:=⟨aJ _,λ_ _=>rfl,R.im,λ_ _ h _=>h,λr h1 h2=>absurd h2 ω,λ_ o h=>⟨o,h⟩⟩
theorem RA.qI(R:RA mg ι H A){p:Addr}{o:HO}(a:H p=none):Ext A ι H A ι (ax H p o):=
 ⟨aJ _,λ_ _=>rfl,R.im,λb u h _=>by rw[aX (c_ h a)];exact h,λr h1 h2=>absurd h2 ω,λb u h=>⟨u,by rw[aX (c_ h a)];exact h⟩⟩
theorem RA.AD(R:RA mg ι H A){p:Addr}{o:HO}{c:C}(a:H p=none):Ext A ι H (A++[c]) (λr=>if r=A.length then p else ι r) (ax H p o):=
 ⟨θ,λr h=>by
  show(if r=A.length then p else ι r)=ι r;rw[ay ω],R.im,λb u h _=>by rw[aX (c_ h a)];exact h,λr h1 h2=>by
  have e:r=A.length:=by simp at h2;omega
  show H (if r=A.length then p else ι r)=none;rw[aC e];exact a,λb u h=>⟨u,by rw[aX (c_ h a)];exact h⟩⟩
theorem RA.oU(R:RA mg ι H A){r:Nat}{o:HO}{c:C}(d:r<A.length):Ext A ι H (A.set r c) ι (ax H (ι r) o):=
 ⟨θ,λ_ _=>rfl,R.im,λb u h f=>by rw[aX (λe=>f r d e.symm)];exact h,λq h1 h2=>absurd h2 (by simp;omega),λb u h=>by
  by_cases a:b=ι r
  .subst a;exact⟨o,d9⟩
  .exact⟨u,by rw[aX a];exact h⟩⟩
theorem RA.fix(R:RA mg ι H A)(e:Ext A ι H A ι H')(k:∀b o,H b=some o->H' b=some o):RA mg ι H' A:=⟨λr c h=>CO.ext e (λo q=>k _ o q) c (R.iP r c h),R.inj⟩
theorem RA.push{p:Addr}{o:HO}{c:C}(R:RA mg ι H A)(e:H p=none)(hc:CO mg (λr=>if r=A.length then p else ι r) (A.length+1) (ax H p o) p c):
  RA mg (λr=>if r=A.length then p else ι r) (ax H p o) (A++[c])/\Ext A ι H (A++[c]) (λr=>if r=A.length then p else ι r) (ax H p o):=by
 have E:Ext A ι H (A++[c]) (λr=>if r=A.length then p else ι r) (ax H p o):=R.AD e;have i:∀r,r<A.length->∃u,H (ι r)=some u:=λr h=>by
  obtain⟨c',f⟩:∃c',A[r]?=some c':=⟨A[r],by rw[a_ h]⟩;have:=R.iP r c' f;cases c' with
  |lst ds=>obtain⟨xs,b,_⟩:=this;exact⟨_,b⟩
  |dct ds=>obtain⟨xs,b,_⟩:=this;exact⟨_,b⟩
  |bV o ds=>obtain⟨xs,b,_⟩:=this;exact⟨_,b⟩
  |ins cl ds=>obtain⟨k,dx,xs,_,b,_⟩:=this;exact⟨_,b⟩
 refine⟨⟨λr c' h=>?_,λr q g j h=>?_⟩,E⟩
 .by_cases g:r<A.length
  .rw[gW g] at h
   have:=CO.ext E (a:=ι r) (λo' q=>by rw[aX (c_ q e)];exact q) c' (R.iP r c' h);show CO mg _ _ _ (if r=A.length then p else ι r) c';rw[ay ω];exact this
  .have hl:r=A.length:=by
    have:=(bP.mp h).1;simp at this;omega
   subst hl;simp at h;subst h;show CO mg _ _ _ (if A.length=A.length then p else ι A.length) c;rw[aC rfl];simpa using hc
 .simp at g j
  have h':(if r=A.length then p else ι r)=(if q=A.length then p else ι q):=h;by_cases h1:r=A.length
  .by_cases h2:q=A.length
   .rw[h1,h2]
   .rw[aC h1,ay h2] at h'
    obtain⟨u,d⟩:=i q ω;rw[<-h',e] at d;cases d
  .by_cases h2:q=A.length
   .rw[ay h1,aC h2] at h'
    obtain⟨u,d⟩:=i r ω;rw[h',e] at d;cases d
   .rw[ay h1,ay h2] at h'
    exact R.inj r q ω ω h'
theorem RA.put{r:Nat}{u o:HO}{c c':C}(R:RA mg ι H A)(i:A[r]?=some c)(m:H (ι r)=some u)(n:jD u=true)(hc:CO mg ι A.length (ax H (ι r) o) (ι r) c'):
  RA mg ι (ax H (ι r) o) (A.set r c')/\Ext A ι H (A.set r c') ι (ax H (ι r) o):=by
 have f:=(bP.mp i).1;have E:Ext A ι H (A.set r c') ι (ax H (ι r) o):=R.oU f;refine⟨⟨λq d h=>?_,λa b j k=>R.inj a b (by simpa using j) (by simpa using k)⟩,E⟩;by_cases g:q=r
 .subst g
  rw[fy f] at h;cases h;simpa using hc
 .rw[fH (Ne.symm g)] at h
  have l:=(bP.mp h).1;have:=CO.ext E (a:=ι q) (λo' z=>by rw[aX (λe=>g (R.inj q r l f e))];exact z) d (R.iP q d h);simpa using this
end
abbrev bQ:=List (Option D)
def lk:bQ->Nat->Option D
 |[],_=>none
 |x::_,0=>x
 |_::r,i+1=>lk r i
theorem qT:∀(τ:bQ) (i:Nat),lk τ i=(τ[i]?).join
 |[],i=>by simp[lk]
 |x::r,0=>by simp[lk]
 |x::r,i+1=>by simp[lk,qT r i]
structure En where
 A:Ar
 ι:Io
 H:Hp
structure RS(mg:aA)(ι:Io)(n:Nat)(H:Hp)(τ:bQ)(σ:St):Prop where
 len:τ.length=σ.length
 at':∀i d,lk τ i=some d->∃v,σ[i]?=some (some v)/\RV mg ι n H d v
structure eB(mg:aA)(N:En)(A:Ar)(ι:Io)(τ:bQ)(σ:St)(H:Hp):Prop where
 ra:RA mg ι H A
 rs:RS mg ι A.length H τ σ
 ex:Ext N.A N.ι N.H A ι H
abbrev DK:=D->Ar->Prop
abbrev aO:=bQ->Ar->DK->Prop
abbrev f7:=bQ->Ar->(Bool->Ar->Prop)->Prop
abbrev dg:=bQ->Ar->(Bi->Ar->Prop)->Prop
def Kt(mg:aA)(A:Ar)(ι:Io)(H:Hp)(R:DK)(Q:VK):Prop:=∀v A' ι' H' u,R v A'->Ext A ι H A' ι' H'->RA mg ι' H' A'->RV mg ι' A'.length H' v u->Q u H'
def qo(mg:aA)(A:Ar)(ι:Io)(H:Hp)(R:Bool->Ar->Prop)(Q:Bool->Hp->Prop):Prop:=∀v A' ι' H',R v A'->Ext A ι H A' ι' H'->RA mg ι' H' A'->Q v H'
def L6(mg:aA)(A:Ar)(ι:Io)(H:Hp)(R:Bi->Ar->Prop)(Q:Bn->Hp->Prop):Prop:=∀v A' ι' H' u,R v A'->Ext A ι H A' ι' H'->RA mg ι' H' A'->ao mg ι' A'.length H' v u->Q u H'
def up(mg:aA)(N:En)(m:aO):TE:=λσ H Q=>∃A ι τ R,eB mg N A ι τ σ H/\m τ A R/\Kt mg A ι H R Q
def dU(mg:aA)(N:En)(m:f7):TT:=λσ H Q=>∃A ι τ R,eB mg N A ι τ σ H/\m τ A R/\qo mg A ι H R Q
def fG(mg:aA)(N:En)(m:dg):TA:=λσ H Q=>∃A ι τ R,eB mg N A ι τ σ H/\m τ A R/\L6 mg A ι H R Q
section
variable{mg:aA}{N:En}{A A':Ar}{ι ι':Io}{τ:bQ}{σ:St}{H H':Hp}
theorem RS.ext(e:Ext A ι H A' ι' H')(r:RS mg ι A.length H τ σ):RS mg ι' A'.length H' τ σ:=⟨r.len,λi d h=>by
 obtain⟨v,h1,h2⟩:=r.at' i d h;exact⟨v,h1,RV.ext e d v h2⟩⟩
theorem eB.next(S:eB mg N A ι τ σ H)(e:Ext A ι H A' ι' H')(r:RA mg ι' H' A'):eB mg N A' ι' τ σ H':=⟨r,S.rs.ext e,S.ex.trans e⟩
theorem Kt.from{R:DK}{Q:VK}(k:Kt mg A ι H R Q)(e:Ext A ι H A' ι' H'):Kt mg A' ι' H' R Q:=λv b a H2 u q c=>k v b a H2 u q (e.trans c)
theorem qo.from{R:Bool->Ar->Prop}{Q:Bool->Hp->Prop}(k:qo mg A ι H R Q)(e:Ext A ι H A' ι' H'):qo mg A' ι' H' R Q:=λv b a H2 q c=>k v b a H2 q (e.trans c)
theorem Kt.here{R:DK}{Q:VK}{d:D}{v:V}(k:Kt mg A ι H R Q)(r:RA mg ι H A)(q:R d A)(h:RV mg ι A.length H d v):Q v H:=k d A ι H v q r.refl r h
theorem qo.here{R:Bool->Ar->Prop}{Q:Bool->Hp->Prop}{b:Bool}(k:qo mg A ι H R Q)(r:RA mg ι H A)(q:R b A):Q b H:=k b A ι H q r.refl r
end
variable{X:Cx}
section
variable{e:Expr}
theorem dR{t t':TE}(h:PE X e t)(w:∀σ H Q,t' σ H Q->t σ H Q):PE X e t':=λae s σ H Q I q=>h ae s σ H Q I (w σ H Q q)
theorem v7{t t':TT}(h:PT X e t)(w:∀σ H Q,t' σ H Q->t σ H Q):PT X e t':=λae s σ H Q I q=>h ae s σ H Q I (w σ H Q q)
theorem FF{t t':TT}(h:PW X e t)(w:∀σ H Q,t' σ H Q->t σ H Q):PW X e t':=λwhole ae s σ H Q I q=>h whole ae s σ H Q I (w σ H Q q)
theorem Ai{es:Dx}{t t':TA}(h:PA X es t)(w:∀σ H Q,t' σ H Q->t σ H Q):PA X es t':=λpos ae s σ H Q I q=>h pos ae s σ H Q I (w σ H Q q)
theorem je{st:Stmt}{t t':TS}(h:PS X st t)(w:∀D σ H,t' D σ H->t D σ H):PS X st t':=λae s σ H D I q=>h ae s σ H D I (w D σ H q)
theorem FE{st:Fu}{t t':TS}(h:dw X st t)(w:∀D σ H,t' D σ H->t D σ H):dw X st t':=λae s σ H D I q=>h ae s σ H D I (w D σ H q)
end
def aT(i:Nat):aO:=λτ A R=>match lk τ i with
 |some v=>R v A
 |none=>False
def dC(d:D):aO:=λ_ A R=>R d A
variable{N:En}
section
variable{pos:Pos}
theorem N3{i:Nat}{x:Str}(b:X.N[i]?=some x)(c:qu X.env.scope x)(hd:(x==("__debug__":Str))=false:=by decide)(a:(x==("__classdict__":Str))=false:=by decide):PE X (.Name x pos) (up X.mg N (aT i)):=
 dR (UG b c hd a) λσ H Q h=>by
  obtain⟨A,ι,τ,R,S,h,k⟩:=h;unfold aT at h;split at h
  .rename_i v e
   obtain⟨u,h1,h2⟩:=S.rs.at' i v e;exact⟨u,h1,k.here S.ra h h2⟩
  .exact h.elim
theorem s8{e:Expr}{d:D}{v:V}(h:PE X e (tC v))(r:∀ι n H,RV X.mg ι n H d v):PE X e (up X.mg N (dC d)):=
 dR h λσ H Q h=>by
  obtain⟨A,ι,τ,R,S,h,k⟩:=h;exact k.here S.ra h (r _ _ _)
theorem aj{i j}:PE X (.Constant (.int i) j pos) (up X.mg N (dC (.int i))):=s8 Uv λ_ _ _=>rfl
theorem fL{b j}:PE X (.Constant (.bool b) j pos) (up X.mg N (dC (.bl b))):=s8 Uh λ_ _ _=>rfl
theorem jX{j}:PE X (.Constant .none j pos) (up X.mg N (dC .aG)):=s8 Ux λ_ _ _=>rfl
theorem bR{x j}:PE X (.Constant (.str x) j pos) (up X.mg N (dC (.str x))):=s8 UB λ_ _ _=>rfl
theorem qB{x:Str}{i:Int}{t:Tok}(a:X.mg x=some (.int i t))(b:Gl X x:=by rfl)(hd:(x==("__debug__":Str))=false:=by decide):PE X (.Name x pos) (up X.mg N (dC (.int i))):=
 s8 (BR (v:=.int i) b a ⟨_,rfl⟩ hd) λ_ _ _=>rfl
end
abbrev fj:=D->D->Ar->DK->Prop
def eK(mg:aA)(r:R2)(f:fj):Prop:=∀x y A ι H u v R Q,RA mg ι H A->RV mg ι A.length H x u->RV mg ι A.length H y v->f x y A R->Kt mg A ι H R Q->r u v H Q
def br(f:fj)(ma mb:aO):aO:=λτ A R=>ma τ A λx A1=>mb τ A1 λy A2=>f x y A2 R
section
variable{pos:Pos}{a b c:Expr}{ma mb mc:aO}{f f':fj}{r r':R2}
theorem yF(h:eK X.mg r f){σ:St}{H:Hp}{Q:VK}(q:up X.mg N (br f ma mb) σ H Q):uQ r (up X.mg N ma) (up X.mg N mb) σ H Q:=by
 obtain⟨A,ι,τ,R,S,q,k⟩:=q;have q:ma τ A (λx a=>mb τ a λy b=>f x y b R):=q;refine⟨A,ι,τ,_,S,q,λx a c H1 u i e j l=>?_⟩;refine⟨a,c,τ,_,S.next e j,i,λy b d H2 v m g n v2=>?_⟩;exact h x y b d H2 u v R Q n (RV.ext g x u l) v2 m (k.from (e.trans g))
theorem oK{op:Operator}(c:bI X (binaryOp op) r)(hd:eK X.mg r f)(d:PE X a (up X.mg N ma))(e:PE X b (up X.mg N mb)):PE X (.BinOp a op b pos) (up X.mg N (br f ma mb)):=
 dR (Uz c d e) λ_ _ _ h=>yF hd h
theorem sZ{op:CmpOp}(c:bI X (compareOp op) r)(hd:eK X.mg r f)(d:PE X a (up X.mg N ma))(e:PE X b (up X.mg N mb))(g:behindInMarks op b=false):PE X (.Compare a [op] [b] pos) (up X.mg N (br f ma mb)):=
 dR (Uq c d e g) λ_ _ _ h=>yF hd h
def fU(m:aO):f7:=λτ A R=>m τ A λx A1=>match x with
 |.bl k=>R k A1
 |_=>False
theorem CI{t:TE}{m:aO}(d:∀σ H Q,up X.mg N m σ H Q->t σ H Q){σ:St}{H:Hp}{Q:Bool->Hp->Prop}(q:dU X.mg N (fU m) σ H Q):Cv t σ H Q:=by
 obtain⟨A,ι,τ,R,S,q,k⟩:=q;refine d _ _ _ ⟨A,ι,τ,_,S,q,λx e a H1 u c f g h=>?_⟩;cases x with
 |bl b=>exact⟨b,h,k b e a H1 c f g⟩
 |_=>exact c.elim
theorem m_{op:CmpOp}(c:bI X (compareOp op) r)(hd:eK X.mg r f)(d:PE X a (up X.mg N ma))(e:PE X b (up X.mg N mb))(g:behindInMarks op b=false):PT X (.Compare a [op] [b] pos) (dU X.mg N (fU (br f ma mb))):=
 v7 (Vh c d e g) λ_ _ _ h=>CI (λ_ _ _ h=>yF hd h) h
noncomputable def sX(f f':fj)(ma mb mc:aO):aO:=λτ A R=>ma τ A λx A1=>mb τ A1 λy A2=>f x y A2 λz A3=>match z with
 |.bl k=>cond k (mc τ A3 λw A4=>f' y w A4 R) (R (.bl false) A3)
 |_=>False
theorem Ld(h:eK X.mg r f)(h':eK X.mg r' f'){σ:St}{H:Hp}{Q:VK}(q:up X.mg N (sX f f' ma mb mc) σ H Q):Cq r r' (up X.mg N ma) (up X.mg N mb) (up X.mg N mc) σ H Q:=by
 obtain⟨A,ι,τ,R,S,q,k⟩:=q;refine⟨A,ι,τ,_,S,q,λx s e H1 u t a m B=>?_⟩;refine⟨s,e,τ,_,S.next a m,t,λy C g H2 v D c n v2=>?_⟩;refine h x y C g H2 u v _ _ n (RV.ext c x u B) v2 D λz E i L w j d o F=>?_;cases z with
 |bl b=>
  refine⟨b,F,?_⟩;cases b with
  |true=>
   rw[aC rfl];refine⟨E,i,τ,_,((S.next a m).next c n).next d o,j,λz G l I w J p K v4=>?_⟩;exact h' y z G l I v w R Q K (RV.ext (d.trans p) y v v2) v4 J (k.from (((a.trans c).trans d).trans p))
  |false=>
   rw[ay cF];exact(k.from ((a.trans c).trans d)).here o j rfl
 |_=>exact j.elim
theorem NT{op d:CmpOp}(i:bI X (compareOp op) r)(e:bI X (compareOp d) r')(hd:eK X.mg r f)(g:eK X.mg r' f')(j:PE X a (up X.mg N ma))(k:PE X b (up X.mg N mb))(hc:PE X c (up X.mg N mc))
  (l:lastMarks [op,d] [b,c]=false:=by with_unfolding_all rfl):PE X (.Compare a [op,d] [b,c] pos) (up X.mg N (sX f f' ma mb mc)):=
 dR (Uo i e j k hc l) λ_ _ _ h=>Ld hd g h
theorem Om{op d:CmpOp}(i:bI X (compareOp op) r)(e:bI X (compareOp d) r')(hd:eK X.mg r f)(g:eK X.mg r' f')(j:PE X a (up X.mg N ma))(k:PE X b (up X.mg N mb))(hc:PE X c (up X.mg N mc))
  (l:lastMarks [op,d] [b,c]=false:=by with_unfolding_all rfl):PT X (.Compare a [op,d] [b,c] pos) (dU X.mg N (fU (sX f f' ma mb mc))):=
 v7 (Vg i e j k hc l) λ_ _ _ h=>CI (λ_ _ _ h=>Ld hd g h) h
theorem eW{m:aO}(h:PE X a (up X.mg N m))(b:∀whole,isTrue a X.env whole=(do let v <-whole;standAt a.pos;holding [v] (truthy v)):=by intro _;rfl):PT X a (dU X.mg N (fU m)):=
 v7 (Vj h b) λ_ _ _ q=>CI (λ_ _ _ h=>h) q
def EO(t u:f7):f7:=λτ A R=>t τ A λc A1=>cond c (u τ A1 R) (R false A1)
def EU(t u:f7):f7:=λτ A R=>t τ A λc A1=>cond c (R true A1) (u τ A1 R)
def Ae(t:f7):f7:=λτ A R=>t τ A λc A1=>R (!c) A1
variable{tA tB:f7}{rest:Dx}
theorem Av(b:PT X a (dU X.mg N tA)):PW X (.BoolOp .And [a] pos) (dU X.mg N tA):=pw_and1 b
theorem iD(b:PT X a (dU X.mg N tA)):PW X (.BoolOp .Or [a] pos) (dU X.mg N tA):=pw_or1 b
theorem Au(g:PT X a (dU X.mg N tA))(h:PW X (.BoolOp .And (b::rest) pos) (dU X.mg N tB)):PW X (.BoolOp .And (a::b::rest) pos) (dU X.mg N (EO tA tB)):=
 FF (pw_and g h) λσ H Q q=>by
  obtain⟨A,ι,τ,R,S,q,k⟩:=q;refine⟨A,ι,τ,_,S,q,λx i c H1 e d f=>?_⟩;cases x with
  |true=>rw[aC rfl];exact⟨i,c,τ,_,S.next d f,e,k.from d⟩
  |false=>rw[ay cF];exact(k.from d).here f e
theorem gM(g:PT X a (dU X.mg N tA))(h:PW X (.BoolOp .Or (b::rest) pos) (dU X.mg N tB)):PW X (.BoolOp .Or (a::b::rest) pos) (dU X.mg N (EU tA tB)):=
 FF (pw_or g h) λσ H Q q=>by
  obtain⟨A,ι,τ,R,S,q,k⟩:=q;refine⟨A,ι,τ,_,S,q,λx i c H1 e d f=>?_⟩;cases x with
  |true=>rw[aC rfl];exact(k.from d).here f e
  |false=>rw[ay cF];exact⟨i,c,τ,_,S.next d f,e,k.from d⟩
theorem eV(b:PT X a (dU X.mg N tA)):PT X (.UnaryOp .Not a pos) (dU X.mg N (Ae tA)):=
 v7 (Vi b) λσ H Q q=>by
  obtain⟨A,ι,τ,R,S,q,k⟩:=q;exact⟨A,ι,τ,_,S,q,λx g c H1 d e f=>(k.from e).here f d⟩
noncomputable def vN(ma mb:aO):aO:=λτ A R=>ma τ A λx A1=>match x with
 |.bl c=>cond c (mb τ A1 R) (R (.bl false) A1)
 |_=>False
theorem qC{op}(h:PE X a (up X.mg N ma)):PE X (.BoolOp op [a] pos) (up X.mg N ma):=Uy h
theorem m5(h:PE X a (up X.mg N ma))(i:PE X (.BoolOp .And (b::rest) pos) (up X.mg N mb)):PE X (.BoolOp .And (a::b::rest) pos) (up X.mg N (vN ma mb)):=
 dR (Ug h i) λσ H Q q=>by
  obtain⟨A,ι,τ,R,S,q,k⟩:=q;refine⟨A,ι,τ,_,S,q,λx j d H1 u e f g l=>?_⟩;cases x with
  |bl c=>
   refine⟨c,l,?_⟩;cases c with
   |true=>rw[aC rfl];exact⟨j,d,τ,_,S.next f g,e,k.from f⟩
   |false=>rw[ay cF];exact(k.from f).here g e rfl
  |_=>exact e.elim
end
def cC:dg:=λ_ A R=>R [] A
def aV(m:aO)(n:dg):dg:=λτ A R=>m τ A λx A1=>n τ A1 λxs A2=>R (x::xs) A2
def jd(n:dg):aO:=λτ A R=>n τ A λxs A1=>xs.length<=sizeLine/\R (.tup xs) A1
def vO(n:dg):aO:=λτ A R=>n τ A λxs A1=>xs.length<=sizeLine/\R (.ref A1.length) (A1++[.lst xs])
section
variable{pos:Pos}{e:Expr}{es:Dx}{m:aO}{n:dg}
theorem af:PA X [] (fG X.mg N cC):=Ai uA λσ H Q q=>by
 obtain⟨A,ι,τ,R,S,q,k⟩:=q;exact k [] A ι H [] q S.ra.refl S.ra rfl
theorem aa(f:PE X e (up X.mg N m))(g:PA X es (fG X.mg N n))(h:starEach (e::es) X.env=(false,eval e X.env)::starEach es X.env:=by rfl):PA X (e::es) (fG X.mg N (aV m n)):=
 Ai (nB f g h) λσ H Q q=>by
  obtain⟨A,ι,τ,R,S,q,k⟩:=q;refine⟨A,ι,τ,_,S,q,λx i a H1 u j c l o=>?_⟩;refine⟨i,a,τ,_,S.next c l,j,λy p b H2 v r d s v2=>?_⟩;exact k _ p b H2 _ r (c.trans d) s ⟨u,v,rfl,RV.ext d x u o,v2⟩
theorem qV{mg:aA}{A:Ar}{ι:Io}{H:Hp}{R:DK}{Q:VK}{ds:Bi}{xs:Bn}{p:Addr}(k:Kt mg A ι H R Q)(r:RA mg ι H A)(h:ao mg ι A.length H ds xs)(q:R (.tup ds) A)(a:H p=none):Q (.ref p) (ax H p (.tup xs)):=by
 have E:Ext A ι H A ι (ax H p (.tup xs)):=r.qI a;exact k _ A ι _ _ q E (r.fix E λb o z=>by rw[aX (c_ z a)];exact z) ⟨p,xs,rfl,d9,ao.ext E ds xs h⟩
theorem jE{mg:aA}{A:Ar}{ι:Io}{H:Hp}{R:DK}{Q:VK}{ds:Bi}{xs:Bn}{p:Addr}(k:Kt mg A ι H R Q)(r:RA mg ι H A)(h:ao mg ι A.length H ds xs)(q:R (.ref A.length) (A++[.lst ds]))(a:H p=none):Q (.ref p) (ax H p (.lst xs)):=by
 have E:Ext A ι H (A++[.lst ds]) (λr=>if r=A.length then p else ι r) (ax H p (.lst xs)):=r.AD a;obtain⟨b,d⟩:=r.push (c:=.lst ds) (o:=.lst xs) a ⟨xs,d9,by simpa using ao.ext E ds xs h⟩;refine k _ _ _ _ _ q d b ⟨θ,?_⟩;show V.ref p=V.ref (if A.length=A.length then p else ι A.length);rw[aC rfl]
theorem cE{c}(h:PA X es (fG X.mg N n)):PE X (.Tuple es c pos) (up X.mg N (jd n)):=dR (UC h) λσ H Q q=>by
 obtain⟨A,ι,τ,R,S,q,k⟩:=q;refine⟨A,ι,τ,_,S,q,λx i d H1 u a e f b=>?_⟩;exact⟨by rw[<-ao.length b];exact a.1,λp g=>qV (k.from e) f b a.2 g⟩
theorem dI(h:PA X es (fG X.mg N n)):PE X (.List es pos) (up X.mg N (vO n)):=dR (Ih h) λσ H Q q=>by
 obtain⟨A,ι,τ,R,S,q,k⟩:=q;refine⟨A,ι,τ,_,S,q,λx g c H1 u a d e b=>?_⟩;exact⟨by rw[<-ao.length b];exact a.1,λp f=>jE (k.from d) e b a.2 f⟩
end
section
variable{mg:aA}{K:Frag}{A:Ar}{ι:Io}{H:Hp}
theorem RA.lst(r:RA mg ι H A){q:Nat}{ds:Bi}(h:A[q]?=some (.lst ds)):∃xs,H (ι q)=some (.lst xs)/\ao mg ι A.length H ds xs:=r.iP q _ h
theorem RA.dct(r:RA mg ι H A){q:Nat}{ds:List (Key×D)}(h:A[q]?=some (.dct ds)):∃xs,H (ι q)=some (.dK xs)/\RK mg ι A.length H ds xs:=r.iP q _ h
theorem RA.bV(r:RA mg ι H A){q:Nat}{o:Obj}{ds:List (Key×D)}(h:A[q]?=some (.bV o ds)):∃xs,H (ι q)=some (.bZ o (.dK xs))/\RK mg ι A.length H ds xs:=r.iP q _ h
theorem ao.ints:∀(ns:DD) {n:Nat},ao mg ι n H (ns.map D.int) (ns.map V.int)
 |[],_=>rfl
 |i::r,n=>⟨_,_,rfl,rfl,ao.ints r⟩
theorem ao.HK{n:Nat}{ds:Bi}(h:ao mg ι n H ds []):ds=[]:=by
 cases ds with
 |nil=>rfl
 |cons d r=>obtain⟨x,r,e,_⟩:=h;cases e
end
abbrev IA(K:Frag):R2:=λx y H Q=>jF (λi j=>.int (i+j)) x y H Q\/(∃i j,x=.str i/\y=.str j/\i.length+j.length<=sizeLine/\Q (.str (i++j)) H)\/ID K x y H Q\/IC x y H Q
theorem Tj{X:Cx}:bI X (binaryOp .Add) (IA X.K):=Tv.or (Tz.or (TH.or TF))
@[irreducible] def vI(r q:Nat)(A:Ar)(R:DK):Prop:=match A[r]?,A[q]? with
 |some (.lst xs),some (.lst ys)=>xs.length+ys.length<=sizeLine/\R (.ref A.length) (A++[.lst (xs++ys)])
 |_,_=>False
noncomputable def om:fj:=λx y A R=>match x,y with
 |.int i,.int j=>R (.int (i+j)) A
 |.str a,.str b=>a.length+b.length<=sizeLine/\R (.str (a++b)) A
 |.tup xs,.tup ys=>xs.length+ys.length<=sizeLine/\R (.tup (xs++ys)) A
 |.ref r,.ref q=>vI r q A R
 |_,_=>False
theorem Nn{mg:aA}{K:Frag}:eK mg (IA K) om:=by
 intro x y A ι H u v R Q ra e f h k;unfold om at h;split at h
 .cases e;cases f
  exact .inl ⟨_,_,rfl,rfl,k.here ra h rfl⟩
 .cases e;cases f
  exact .inr (.inl ⟨_,_,rfl,rfl,h.1,k.here ra h.2 rfl⟩)
 .obtain⟨a,xs,rfl,g,c⟩:=e
  obtain⟨b,ys,rfl,i,d⟩:=f;refine .inr (.inr (.inl ⟨a,b,xs,ys,rfl,rfl,bL.of g,bL.of i,by rw[<-ao.length c,<-ao.length d];exact h.1,λz=>?_,λ_ z=>?_,λ_ _ p j=>qV k ra (c.app d) h.2 j⟩))
  .subst z
   obtain rfl:=ao.HK c;exact k.here ra h.2 ⟨b,ys,rfl,i,d⟩
  .subst z
   obtain rfl:=ao.HK d;exact k.here ra h.2 ⟨a,xs,rfl,g,by rw[ko];exact c⟩
 .rename_i r q
  unfold vI at h;split at h
  .rename_i xs ys g i
   obtain⟨l,h1,c⟩:=ra.lst g;obtain⟨vs,h2,d⟩:=ra.lst i;obtain⟨_,rfl⟩:=e;obtain⟨_,rfl⟩:=f;exact .inr (.inr (.inr ⟨_,_,l,vs,rfl,rfl,h1,h2,by rw[<-ao.length c,<-ao.length d];exact h.1,λp j=>jE k ra (c.app d) h.2 j⟩))
  .exact h.elim
 .exact h.elim
noncomputable def intD(C:Int->Int->Prop)(g:Int->Int->D):fj:=λx y A R=>match x,y with
 |.int i,.int j=>C i j/\R (g i j) A
 |_,_=>False
def wH(g:Int->Int->D):fj:=λx y A R=>match x,y with
 |.int i,.int j=>R (g i j) A
 |_,_=>False
theorem Ah{mg:aA}{C:Int->Int->Prop}{g:Int->Int->V}{g':Int->Int->D}(a:∀i j ι n H,RV mg ι n H (g' i j) (g i j)):eK mg (rI C g) (intD C g'):=by
 intro x y A ι H u v R Q ra b c h k;unfold intD at h;split at h
 .cases b;cases c
  exact⟨_,_,rfl,rfl,h.1,k.here ra h.2 (a _ _ _ _ _)⟩
 .exact h.elim
theorem EZ{mg:aA}{g:Int->Int->V}{g':Int->Int->D}(a:∀i j ι n H,RV mg ι n H (g' i j) (g i j)):eK mg (jF g) (wH g'):=by
 intro x y A ι H u v R Q ra b c h k;unfold wH at h;split at h
 .cases b;cases c
  exact⟨_,_,rfl,rfl,k.here ra h (a _ _ _ _ _)⟩
 .exact h.elim
abbrev Xn:fj:=wH λi j=>.int (i - j)
abbrev o_:fj:=intD vh λi j=>.int (i*j)
abbrev Oc:fj:=intD (λ_ j=>0<j/\j.natAbs.log2<9000) λi j=>.int (i/j)
abbrev Hz:fj:=intD (λ_ j=>0<j) λi j=>.int (i%j)
section
variable{pos:Pos}{a b c:Expr}{ma mb mc:aO}
theorem dP(c:PE X a (up X.mg N ma))(d:PE X b (up X.mg N mb)):PE X (.BinOp a .Add b pos) (up X.mg N (br om ma mb)):=oK Tj Nn c d
theorem oM(c:PE X a (up X.mg N ma))(d:PE X b (up X.mg N mb)):PE X (.BinOp a .Sub b pos) (up X.mg N (br Xn ma mb)):=oK Ua (EZ λ_ _ _ _ _=>rfl) c d
theorem dQ(c:PE X a (up X.mg N ma))(d:PE X b (up X.mg N mb)):PE X (.BinOp a .Mult b pos) (up X.mg N (br o_ ma mb)):=oK T4 (Ah λ_ _ _ _ _=>rfl) c d
theorem oH(c:PE X a (up X.mg N ma))(d:PE X b (up X.mg N mb)):PE X (.BinOp a .FloorDiv b pos) (up X.mg N (br Oc ma mb)):=oK TQ (Ah λ_ _ _ _ _=>rfl) c d
theorem oJ(c:PE X a (up X.mg N ma))(d:PE X b (up X.mg N mb)):PE X (.BinOp a .Mod b pos) (up X.mg N (br Hz ma mb)):=oK T3 (Ah λ_ _ _ _ _=>rfl) c d
def Ni(m:aO):aO:=λτ A R=>m τ A λx A1=>match x with
 |.int i=>R (.int (-i)) A1
 |_=>False
theorem NY(c:PE X a (up X.mg N ma)):PE X (.UnaryOp .USub a pos) (up X.mg N (Ni ma)):=dR (UE Yu c) λσ H Q q=>by
 obtain⟨A,ι,τ,R,S,q,k⟩:=q;refine⟨A,ι,τ,_,S,q,λx h d H1 u b e f g=>?_⟩;cases x with
 |int i=>cases g;exact⟨i,rfl,(k.from e).here f b rfl⟩
 |_=>exact b.elim
end
abbrev IU:R2:=λx y H Q=>jF (λi j=>.bl (decide (i<j))) x y H Q\/∃i j,x=.str i/\y=.str j/\Q (.bl (decide (i.cps.toList<j.cps.toList))) H
abbrev IT:R2:=λx y H Q=>jF (λi j=>.bl (decide (i<=j))) x y H Q\/∃i j,x=.str i/\y=.str j/\Q (.bl (!decide (j.cps.toList<i.cps.toList))) H
theorem Tn{X:Cx}:bI X (compareOp .Lt) IU:=TY.or TZ
theorem w_{X:Cx}:bI X (compareOp .LtE) IT:=TV.or TX
noncomputable def wU:fj:=λx y A R=>match x,y with
 |.int i,.int j=>R (.bl (decide (i<j))) A
 |.str a,.str b=>R (.bl (decide (a.cps.toList<b.cps.toList))) A
 |_,_=>False
noncomputable def qR:fj:=λx y A R=>match x,y with
 |.int i,.int j=>R (.bl (decide (i<=j))) A
 |.str a,.str b=>R (.bl (!decide (b.cps.toList<a.cps.toList))) A
 |_,_=>False
theorem ND{mg:aA}:eK mg IU wU:=by
 intro x y A ι H u v R Q ra a b h k;unfold wU at h;split at h
 .cases a;cases b;exact .inl ⟨_,_,rfl,rfl,k.here ra h rfl⟩
 .cases a;cases b;exact .inr ⟨_,_,rfl,rfl,k.here ra h rfl⟩
 .exact h.elim
theorem vP{mg:aA}:eK mg IT qR:=by
 intro x y A ι H u v R Q ra a b h k;unfold qR at h;split at h
 .cases a;cases b;exact .inl ⟨_,_,rfl,rfl,k.here ra h rfl⟩
 .cases a;cases b;exact .inr ⟨_,_,rfl,rfl,k.here ra h rfl⟩
 .exact h.elim
abbrev wo:fj:=wH λi j=>.bl (decide (j<i))
theorem EW{mg:aA}:eK mg (jF λi j=>.bl (decide (j<i))) wo:=EZ λ_ _ _ _ _=>rfl
def Bc:D->Bool
 |.aG=>true
 |_=>false
def Bb:fj:=λx y A R=>match y with
 |.aG=>R (.bl (Bc x)) A
 |_=>False
def BH:fj:=λx y A R=>match y with
 |.aG=>R (.bl (!Bc x)) A
 |_=>False
theorem RV.HM{mg:aA}{ι:Io}{n:Nat}{H:Hp}{x:D}{u:V}(r:RV mg ι n H x u):decide (u=.aG)=Bc x:=by
 cases x with
 |aG=>cases r;rfl
 |bl b=>cases r;rfl
 |int b=>cases r;rfl
 |str b=>cases r;rfl
 |tup ds=>obtain⟨a,xs,rfl,_⟩:=r;rfl
 |ref q=>obtain⟨_,rfl⟩:=r;rfl
 |fl ns=>obtain⟨a,o,rfl,_⟩:=r;rfl
 |exc c=>obtain⟨a,C,rfl,_⟩:=r;rfl
theorem Nz{mg:aA}:eK mg (λx y H Q=>y=.aG/\Q (.bl (decide (x=.aG))) H) Bb:=by
 intro x y A ι H u v R Q ra a b h k;unfold Bb at h;split at h
 .cases b
  refine⟨rfl,?_⟩;rw[a.HM];exact k.here ra h rfl
 .exact h.elim
theorem NI{mg:aA}:eK mg (λx y H Q=>y=.aG/\Q (.bl (!decide (x=.aG))) H) BH:=by
 intro x y A ι H u v R Q ra a b h k;unfold BH at h;split at h
 .cases b
  refine⟨rfl,?_⟩;rw[a.HM];exact k.here ra h rfl
 .exact h.elim
mutual
def toQ:D->PyData
 |.aG=>.none
 |.bl b=>.bool b
 |.int i=>.int i
 |.str x=>.str x
 |.tup xs=>.tuple (bG xs)
 |.ref _=>.none
 |.fl ns=>.list (ns.map .int)
 |.exc _=>.none
def bG:Bi->Fm
 |[]=>[]
 |d::r=>toQ d::bG r
end
mutual
def gO:D->Bool
 |.tup xs=>fP xs
 |.ref _=>false
 |.exc _=>false
 |_=>true
def fP:Bi->Bool
 |[]=>true
 |d::r=>gO d&&fP r
end
def cH(A:Ar):D->PyData
 |.ref r=>match A[r]? with
  |some (.lst xs)=>.list (bG xs)
  |_=>.none
 |d=>toQ d
def iH(A:Ar):D->Bool
 |.ref r=>match A[r]? with
  |some (.lst xs)=>fP xs
  |_=>false
 |d=>gO d
section
variable{mg:aA}{K:Frag}{A:Ar}{ι:Io}{H:Hp}
theorem Of:∀ns:DD,gY K H (ns.map V.int) (ns.map PyData.int):=gY.ints
mutual
theorem RV.dp{n:Nat}:∀(d:D) (v:V),gO d=true->RV mg ι n H d v->Dp K H v (toQ d)
 |.aG,_,_,h=>by cases h;exact .aG
 |.bl b,_,_,h=>by cases h;exact .bl b
 |.int i,_,_,h=>by cases h;exact .int i
 |.str x,_,_,h=>by cases h;exact .str x
 |.tup ds,v,p,h=>by
  obtain⟨a,xs,rfl,e,r⟩:=h;exact .tup (bL.of e) (ao.dp ds xs (by simpa[gO] using p) r)
 |.ref _,_,p,_=>by simp[gO] at p
 |.fl ns,v,_,h=>by
  obtain⟨a,o,rfl,e⟩:=h;exact .lst (.inl (.inr ⟨o,e⟩)) (Of ns)
 |.exc _,_,p,_=>by simp[gO] at p
theorem ao.dp{n:Nat}:∀(ds:Bi) (vs:Bn),fP ds=true->ao mg ι n H ds vs->gY K H vs (bG ds)
 |[],vs,_,h=>by cases (show vs=[] from h);exact .nil
 |d::ds,vs,p,h=>by
  obtain⟨x,r,rfl,h1,h2⟩:=h;have a:gO d=true/\fP ds=true:=by simpa[fP] using p
  exact .cons (RV.dp d x a.1 h1) (ao.dp ds r a.2 h2)
end
theorem RA.dp(ra:RA mg ι H A){d:D}{v:V}(p:iH A d=true)(h:RV mg ι A.length H d v):Dp K H v (cH A d):=by
 cases d with
 |ref r=>
  obtain⟨_,rfl⟩:=h;unfold iH at p;unfold cH;simp only at p ⊢;split at p
  .rename_i xs e
   obtain⟨a,h1,b⟩:=ra.lst e;exact .lst (aU.of h1) (ao.dp xs a p b)
  .cases p
 |_=>exact RV.dp _ v p h
end
@[irreducible] def fD(neg:Bool)(x y:D)(A:Ar)(R:DK):Prop:=iH A x=true/\iH A y=true/\(cH A x).canLay0=true/\(cH A y).canLay0=true/\min (cH A x).depth (cH A y).depth<=64/\R (.bl (if neg then !PyData.eqv (cH A x) (cH A y) else PyData.eqv (cH A x) (cH A y))) A
noncomputable def lY:fj:=λx y A R=>match x,y with
 |.int i,.int j=>R (.bl (decide (i=j))) A
 |.str a,.str b=>R (.bl (decide (a=b))) A
 |.bl a,.bl b=>R (.bl (decide (a=b))) A
 |x,y=>fD false x y A R
noncomputable def pA:fj:=λx y A R=>match x,y with
 |.int i,.int j=>R (.bl (!decide (i=j))) A
 |.str a,.str b=>R (.bl (!decide (a=b))) A
 |.bl a,.bl b=>R (.bl (!decide (a=b))) A
 |x,y=>fD true x y A R
theorem HP{X:Cx}(a:X.A.units+64<cLine):bI X (compareOp .Eq) (λx y H Q=>B4 x y H Q\/B5 X.K x y H Q):=TM.or (TN a)
theorem HQ{X:Cx}(a:X.A.units+64<cLine):bI X (compareOp .NotEq) (λx y H Q=>B7 x y H Q\/B8 X.K x y H Q):=T5.or (T6 a)
theorem EV{mg:aA}{K:Frag}:eK mg (λx y H Q=>B4 x y H Q\/B5 K x y H Q) lY:=by
 intro x y A ι H u v R Q ra a b h k;unfold lY at h;split at h
 .cases a;cases b
  rename_i i j;refine .inl ⟨rfl,?_⟩;have e:decide (V.int i=V.int j)=decide (i=j):=θ
  rw[e];exact k.here ra h rfl
 .cases a;cases b
  rename_i i j;refine .inl ⟨rfl,?_⟩;have e:decide (V.str i=V.str j)=decide (i=j):=θ
  rw[e];exact k.here ra h rfl
 .cases a;cases b
  rename_i i j;refine .inl ⟨rfl,?_⟩;have e:decide (V.bl i=V.bl j)=decide (i=j):=θ
  rw[e];exact k.here ra h rfl
 .unfold fD at h
  obtain⟨c,p2,d,f,hd,q⟩:=h;exact .inr ⟨_,_,ra.dp c a,ra.dp p2 b,d,f,hd,k.here ra q rfl⟩
theorem E2{mg:aA}{K:Frag}:eK mg (λx y H Q=>B7 x y H Q\/B8 K x y H Q) pA:=by
 intro x y A ι H u v R Q ra a b h k;unfold pA at h;split at h
 .cases a;cases b
  rename_i i j;refine .inl ⟨rfl,?_⟩;have e:decide (V.int i=V.int j)=decide (i=j):=θ
  rw[e];exact k.here ra h rfl
 .cases a;cases b
  rename_i i j;refine .inl ⟨rfl,?_⟩;have e:decide (V.str i=V.str j)=decide (i=j):=θ
  rw[e];exact k.here ra h rfl
 .cases a;cases b
  rename_i i j;refine .inl ⟨rfl,?_⟩;have e:decide (V.bl i=V.bl j)=decide (i=j):=θ
  rw[e];exact k.here ra h rfl
 .unfold fD at h
  obtain⟨c,p2,d,f,hd,q⟩:=h;exact .inr ⟨_,_,ra.dp c a,ra.dp p2 b,d,f,hd,k.here ra q rfl⟩
def gw:D->Option Key
 |.int i=>some (.inl i)
 |.str x=>some (.inr x)
 |_=>none
def bF:List (Key×D)->Key->Option D
 |[],_=>none
 |p::r,k=>if p.1=k then some p.2 else bF r k
@[irreducible] def l_(r:Nat)(y:D)(A:Ar)(R:DK):Prop:=match A[r]? with
 |some (.lst xs)=>(match y with
  |.int i=>(match cV xs i with
   |some v=>R v A
   |none=>False)
  |_=>False)
 |some (.dct kvs)=>(match gw y with
  |some k=>(match bF kvs k with
   |some v=>R v A
   |none=>False)
  |none=>False)
 |some (.bV _ kvs)=>(match gw y with
  |some k=>(match bF kvs k with
   |some v=>R v A
   |none=>False)
  |none=>False)
 |_=>False
noncomputable def eZ:fj:=λx y A R=>match x,y with
 |.tup xs,.int i=>match cV xs i with
  |some v=>R v A
  |none=>False
 |.str z,.int i=>match cV z.cps.toList i with
  |some c=>z.length<=sizeLine/\R (.str ⟨#[c]⟩) A
  |none=>False
 |.fl ns,.int i=>match cV ns i with
  |some c=>R (.int c) A
  |none=>False
 |.ref r,y=>l_ r y A R
 |_,_=>False
section
variable{mg:aA}{K:Frag}{A:Ar}{ι:Io}{H:Hp}
theorem ao.cV{n:Nat}{ds:Bi}{vs:Bn}{i:Int}{d:D}(r:ao mg ι n H ds vs)(h:L2.cV ds i=some d):∃v,L2.cV vs i=some v/\RV mg ι n H d v:=by
 unfold L2.cV at h ⊢;rw[<-ao.length r];cases q:j0 ds.length i with
 |none=>rw[q] at h;cases h
 |some j=>
  rw[q] at h;exact ao.get r h
theorem Mn{α β:Type}(f:α->β)(xs:List α)(i:Int):L2.cV (xs.map f) i=(L2.cV xs i).map f:=by
 unfold L2.cV;rw[aQ];cases j0 xs.length i with
 |none=>rfl
 |some j=>simp
theorem RK.get{n:Nat}:∀{kvs:List (Key×D)} {xs:List (Key×V)} {k:Key},RK mg ι n H kvs xs->(∀d,bF kvs k=some d->∃v,fQ xs k=some v/\RV mg ι n H d v)/\(bF kvs k=none->fQ xs k=none)
 |[],xs,k,h=>by
  cases (show xs=[] from h);exact⟨λd e=>by simp[bF] at e,λ_=>rfl⟩
 |p::r,xs,k,h=>by
  obtain⟨x,r',rfl,h1,h2⟩:=h;obtain⟨b,c⟩:=RK.get (k:=k) h2;unfold bF;by_cases a:p.1=k
  .rw[aC a]
   have e:fQ ((p.1,x)::r') k=some x:=by simp[fQ,a]
   rw[e];exact⟨λd z=>by cases z;exact⟨x,rfl,h1⟩,λz=>by cases z⟩
  .rw[ay a]
   have e:fQ ((p.1,x)::r') k=fQ r' k:=by simp[fQ,lM,a]
   rw[e];exact⟨b,c⟩
theorem o5{n:Nat}{y:D}{v:V}{k:Key}(h:gw y=some k)(r:RV mg ι n H y v):v=kV k:=by
 cases y with
 |int i=>cases h;exact r
 |str x=>cases h;exact r
 |_=>cases h
end
def IM:R2:=λx y H Q=>∃a v,x=.ref a/\qi H a y (some v)/\Q v H
theorem Rj{X:Cx}(i:X.A.units+64<cLine):jP X IM:=by
 intro value slice ae s σ H x y v u Q I c d h e;obtain⟨a,z,rfl,g,q⟩:=h;cases c;exact tail_any (Oa I g) PySem.F.slot_dict_getitem.lookup (Nu ω I g d λj k f b=>⟨z,H,f,b,q⟩) e
abbrev IL(K:Frag):R2:=λx y H Q=>IK K x y H Q\/IM x y H Q
theorem Q7{X:Cx}(a:X.A.units+64<cLine):jP X (IL X.K):=Rk.or (Rj a)
theorem NB{mg:aA}{K:Frag}:eK mg (IL K) eZ:=by
 intro x y A ι H u v R Q ra i f h k;unfold eZ at h;split at h
 .obtain⟨a,xs,rfl,j,b⟩:=i
  cases f;split at h
  .rename_i d e
   obtain⟨z,hz,c⟩:=b.cV e;exact .inl (.inr (.inl ⟨a,xs,_,z,rfl,rfl,bL.of j,hz,k.here ra h c⟩))
  .exact h.elim
 .cases i;cases f
  split at h
  .rename_i d e
   exact .inl (.inr (.inr ⟨_,_,_,rfl,rfl,h.1,e,k.here ra h.2 rfl⟩))
  .exact h.elim
 .obtain⟨a,o,rfl,j⟩:=i
  cases f;split at h
  .rename_i d e
   exact .inl (.inl ⟨a,_,_,_,rfl,rfl,.inl (.inr ⟨o,j⟩),by rw[Mn,e];rfl,k.here ra h rfl⟩)
  .exact h.elim
 .obtain⟨_,rfl⟩:=i
  unfold l_ at h;split at h
  .rename_i xs e
   obtain⟨g,h1,b⟩:=ra.lst e;split at h
   .cases f
    split at h
    .rename_i d e
     obtain⟨z,hz,c⟩:=b.cV e;exact .inl (.inl ⟨_,g,_,z,rfl,rfl,aU.of h1,hz,k.here ra h c⟩)
    .exact h.elim
   .exact h.elim
  .rename_i kvs e
   obtain⟨g,h1,b⟩:=ra.dct e;split at h
   .rename_i l m
    cases o5 m f;split at h
    .rename_i d n
     obtain⟨z,hz,c⟩:=(RK.get b).1 d n;exact .inr ⟨_,z,rfl,.inl ⟨g,l,.inl h1,rfl,hz.symm⟩,k.here ra h c⟩
    .exact h.elim
   .exact h.elim
  .rename_i o kvs e
   obtain⟨g,h1,b⟩:=ra.bV e;split at h
   .rename_i l m
    cases o5 m f;split at h
    .rename_i d n
     obtain⟨z,hz,c⟩:=(RK.get b).1 d n;exact .inr ⟨_,z,rfl,.inl ⟨g,l,.inr ⟨o,h1⟩,rfl,hz.symm⟩,k.here ra h c⟩
    .exact h.elim
   .exact h.elim
  .exact h.elim
 .exact h.elim
theorem NW{X:Cx}{N:En}{pos:Pos}{a b:Expr}{ma mb:aO}(c:X.A.units+64<cLine)(d:PE X a (up X.mg N ma))(e:PE X b (up X.mg N mb))(f:vz b):PE X (.Subscript a b pos) (up X.mg N (br eZ ma mb)):=
 dR (Ig (Q7 c) d e f) λ_ _ _ h=>yF NB h
structure mS where
 nx:bQ->Ar->Prop
 rt:DK
 bk:bQ->Ar->Prop:=λ_ _=>False
 ct:bQ->Ar->Prop:=λ_ _=>False
abbrev cK:=mS->bQ->Ar->Prop
def kC(mg:aA)(A:Ar)(ι:Io)(H:Hp)(R:bQ->Ar->Prop)(Q:St->Hp->Prop):Prop:=∀τ A' ι' σ H',R τ A'->Ext A ι H A' ι' H'->RA mg ι' H' A'->RS mg ι' A'.length H' τ σ->Q σ H'
structure vq(mg:aA)(A:Ar)(ι:Io)(H:Hp)(R:mS)(Q:Ends):Prop where
 nx:kC mg A ι H R.nx Q.nx
 rt:Kt mg A ι H R.rt Q.rt
 bk:kC mg A ι H R.bk Q.bk
 ct:kC mg A ι H R.ct Q.ct
def cQ(mg:aA)(N:En)(m:cK):TS:=λQ σ H=>∃A ι τ R,eB mg N A ι τ σ H/\m R τ A/\vq mg A ι H R Q
section
variable{mg:aA}{N:En}{A A':Ar}{ι ι':Io}{τ bX:bQ}{σ σ':St}{H H':Hp}
theorem kC.from{R:bQ->Ar->Prop}{Q:St->Hp->Prop}(k:kC mg A ι H R Q)(e:Ext A ι H A' ι' H'):kC mg A' ι' H' R Q:=λτ b a σ H2 q c=>k τ b a σ H2 q (e.trans c)
theorem vq.from{R:mS}{Q:Ends}(k:vq mg A ι H R Q)(e:Ext A ι H A' ι' H'):vq mg A' ι' H' R Q:=⟨k.nx.from e,k.rt.from e,k.bk.from e,k.ct.from e⟩
theorem kC.here{R:bQ->Ar->Prop}{Q:St->Hp->Prop}(k:kC mg A ι H R Q)(S:eB mg N A ι τ σ H)(q:R τ A):Q σ H:=k τ A ι σ H q S.ra.refl S.ra S.rs
theorem eB.to(S:eB mg N A ι τ σ H)(e:Ext A ι H A' ι' H')(r:RA mg ι' H' A')(s:RS mg ι' A'.length H' bX σ'):eB mg N A' ι' bX σ' H':=⟨r,s,S.ex.trans e⟩
theorem Bv:∀(τ:bQ) (i:Nat) (d:D),i<τ.length->lk (τ.set i (some d)) i=some d
 |[],i,d,h=>by simp at h
 |x::r,0,d,_=>rfl
 |x::r,i+1,d,h=>Bv r i d (by simpa using h)
theorem Bu:∀(τ:bQ) (i j:Nat) (d:Option D),j≠i->lk (τ.set i d) j=lk τ j
 |[],i,j,d,_=>rfl
 |x::r,0,0,d,h=>absurd rfl h
 |x::r,0,j+1,d,_=>rfl
 |x::r,i+1,0,d,_=>rfl
 |x::r,i+1,j+1,d,h=>Bu r i j d ω
theorem RS.set{n:Nat}{i:Nat}{d:D}{v:V}(r:RS mg ι n H τ σ)(h:RV mg ι n H d v):RS mg ι n H (τ.set i (some d)) (σ.set i (some v)):=⟨by simp[r.len],λj e q=>by
 by_cases a:j=i
 .subst a
  by_cases hl:j<τ.length
  .rw[Bv _ _ _ hl] at q
   cases q;refine⟨v,?_,h⟩;rw[fy (by rw[<-r.len];exact hl)]
  .rw[List.set_eq_of_length_le ω] at q
   rw[qT,nZ ω] at q;cases q
 .rw[Bu _ _ _ _ a] at q
  obtain⟨w,h1,h2⟩:=r.at' j e q;exact⟨w,by rw[fH (Ne.symm a)];exact h1,h2⟩⟩
theorem eB.set{i:Nat}{d:D}{v:V}(S:eB mg N A ι τ σ H)(h:RV mg ι A.length H d v):eB mg N A ι (τ.set i (some d)) (σ.set i (some v)) H:=⟨S.ra,S.rs.set h,S.ex⟩
end
def rz:cK:=λR τ A=>R.nx τ A
def iY(t u:cK):cK:=λR τ A=>t {R with nx:=u R} τ A
def Cd(m:aO):cK:=λR τ A=>m τ A λ_ A1=>R.nx τ A1
def pL(m:aO):cK:=λR τ A=>m τ A R.rt
def rq(c:f7)(t u:cK):cK:=λR τ A=>c τ A λb A1=>cond b (t R τ A1) (u R τ A1)
section
variable{pos:Pos}{st:Stmt}{rest:Fu}{t u:cK}{e:Expr}{m:aO}
theorem b_:dw X [] (cQ X.mg N rz):=FE Ve λQ σ H q=>by
 obtain⟨A,ι,τ,R,S,q,k⟩:=q;exact k.nx.here S q
theorem aE(h1:PS X st (cQ X.mg N t))(h2:dw X rest (cQ X.mg N u)):dw X (st::rest) (cQ X.mg N (iY t u)):=FE (Vd h1 h2) λQ σ H q=>by
 obtain⟨A,ι,τ,R,S,q,k⟩:=q;exact⟨A,ι,τ,_,S,q,⟨λa d b e H1 f c g h=>⟨d,b,a,R,S.to c g h,f,k.from c⟩,k.rt,k.bk,k.ct⟩⟩
theorem aD(h1:PS X st (cQ X.mg N t)):dw X [st] (cQ X.mg N t):=Vf h1
theorem fm(b:PE X e (up X.mg N m))(c:swapsWith e none pos.line X.env=pure false:=by rfl):PS X (.Expr e pos) (cQ X.mg N (Cd m)):=je (U6 b c) λQ σ H q=>by
 obtain⟨A,ι,τ,R,S,q,k⟩:=q;exact⟨A,ι,τ,_,S,q,λv h d H1 u f a g i=>(k.nx.from a).here (S.next a g) f⟩
theorem aP(a:PE X e (up X.mg N m)):PS X (.Return (some e) pos) (cQ X.mg N (pL m)):=je (U' a) λQ σ H q=>by
 obtain⟨A,ι,τ,R,S,q,k⟩:=q;exact⟨A,ι,τ,_,S,q,k.rt⟩
theorem bY{c:Expr}{a b:Fu}{tc:f7}(hc:PT X c (dU X.mg N tc))(i:dw X a (cQ X.mg N t))(j:dw X b (cQ X.mg N u)):PS X (.If c a b pos) (cQ X.mg N (rq tc t u)):=je (U8 hc i j) λQ σ H q=>by
 obtain⟨A,ι,τ,R,S,q,k⟩:=q;refine⟨A,ι,τ,_,S,q,λx f d H1 g e h=>?_⟩;cases x with
 |true=>rw[aC rfl];exact⟨f,d,τ,R,S.next e h,g,k.from e⟩
 |false=>rw[ay cF];exact⟨f,d,τ,R,S.next e h,g,k.from e⟩
end
abbrev jO:=D->bQ->Ar->(bQ->Ar->Prop)->Prop
abbrev qj:=Bi->bQ->Ar->(bQ->Ar->Prop)->Prop
noncomputable def pP(mg:aA)(N:En)(g:jO):TG:=λv σ H Q=>∃A ι τ d R,eB mg N A ι τ σ H/\RV mg ι A.length H d v/\g d τ A R/\kC mg A ι H R Q
noncomputable def yD(mg:aA)(N:En)(g:qj):kF:=λvs σ H Q=>∃A ι τ ds R,eB mg N A ι τ σ H/\ao mg ι A.length H ds vs/\g ds τ A R/\kC mg A ι H R Q
def gN(i:Nat):jO:=λd τ A R=>R (τ.set i (some d)) A
def AM:qj:=λds τ A R=>match ds with
 |[]=>R τ A
 |_=>False
def wm(g:jO)(h:qj):qj:=λds τ A R=>match ds with
 |d::r=>g d τ A λC6 A1=>h r C6 A1 R
 |[]=>False
def gT(n:Nat)(g:qj):jO:=λd τ A R=>match d with
 |.tup ds=>ds.length=n/\g ds τ A R
 |_=>False
def Je(m:aO)(g:jO):cK:=λR τ A=>m τ A λv A1=>g v τ A1 R.nx
section
variable{pos:Pos}{e tg:Expr}{es:Dx}{m:aO}{g:jO}{gs:qj}
theorem Fl{t t':TG}(h:PG X tg t)(w:∀v σ H Q,t' v σ H Q->t v σ H Q):PG X tg t':=λae s σ H v u Q I r q=>h ae s σ H v u Q I r (w v σ H Q q)
theorem Fo{t t':kF}(h:kE X es t)(w:∀v σ H Q,t' v σ H Q->t v σ H Q):kE X es t':=λae s σ H v u Q I r q=>h ae s σ H v u Q I r (w v σ H Q q)
theorem N8{i:Nat}{x:Str}(a:X.N.Nodup)(hi:X.N[i]?=some x)(b:Loc X.env.scope x)(c:X.fn x=true\/X.env.scope.names.lookup x=some .local:=by first|exact .inl rfl|exact .inr rfl|assumption):PG X (.Name x pos) (pP X.mg N (gN i)):=
 Fl (Ij a hi b c) λv σ H Q q=>by
  obtain⟨A,ι,τ,d,R,S,r,q,k⟩:=q;exact k.here (S.set r) q
theorem oQ:kE X [] (yD X.mg N AM):=Fo mu λv σ H Q q=>by
 obtain⟨A,ι,τ,ds,R,S,r,q,k⟩:=q;unfold AM at q;split at q
 .exact⟨r,k.here S q⟩
 .exact q.elim
theorem gK(h1:PG X e (pP X.mg N g))(h2:kE X es (yD X.mg N gs))(f:(assignEach (e::es) X.env).map (·.2)=assign e X.env::(assignEach es X.env).map (·.2):=by rfl):kE X (e::es) (yD X.mg N (wm g gs)):=
 Fo (gj h1 h2 f) λv σ H Q q=>by
  obtain⟨A,ι,τ,ds,R,S,r,q,k⟩:=q;cases ds with
  |nil=>exact q.elim
  |cons d ds=>
   obtain⟨x,xs,rfl,h,i⟩:=r;refine⟨x,xs,rfl,A,ι,τ,d,_,S,h,q,λa j b l H1 m c a1 n=>?_⟩;exact⟨j,b,a,ds,R,S.to c a1 n,ao.ext c ds xs i,m,k.from c⟩
theorem oO{k n:Nat}(hc:X.calm=true)(h:kE X es (yD X.mg N gs))(c:(assignEach es X.env).length=n:=by rfl)(b:(assignEach es X.env).findIdx? (·.1)=none:=by rfl):PG X (.Tuple es k pos) (pP X.mg N (gT n gs)):=
 Fl (mq hc h c b) λv σ H Q q=>by
  obtain⟨A,ι,τ,d,R,S,r,q,k⟩:=q;cases d with
  |tup ds=>
   obtain⟨a,xs,rfl,h1,h2⟩:=r;exact⟨a,xs,rfl,bL.of h1,by rw[<-ao.length h2];exact q.1,A,ι,τ,ds,R,S,h2,q.2,k⟩
  |_=>exact q.elim
theorem Yw{te:TE}{σ:St}{H:Hp}{Q:Ends}(c:∀σ H Q,up X.mg N m σ H Q->te σ H Q)(q:cQ X.mg N (Je m g) Q σ H):yv te (pP X.mg N g) Q σ H:=by
 obtain⟨A,ι,τ,R,S,q,k⟩:=q;exact c _ _ _ ⟨A,ι,τ,_,S,q,λv d a H1 u e b f h=>⟨d,a,τ,v,_,S.next b f,h,e,k.nx.from b⟩⟩
theorem Og(a:PE X e (up X.mg N m))(b:PG X tg (pP X.mg N g))(c:swapsWithSole [tg] e pos.line X.env=pure false:=by rfl)(d:swappedStores [tg] e X.env=pure none:=by rfl)
 (h1:(assignEach [tg] X.env).map (·.2)=[assign tg X.env]:=by rfl):PS X (.Assign [tg] e pos) (cQ X.mg N (Je m g)):=je (U3 a b c d h1) λ_ _ _ q=>Yw (λ_ _ _ h=>h) q
def iK(i:Nat)(m:aO):cK:=λR τ A=>m τ A λv A1=>R.nx (τ.set i (some v)) A1
theorem Oj{i:Nat}{x:Str}{pos':Pos}(b:X.N.Nodup)(hi:X.N[i]?=some x)(c:Loc X.env.scope x)(d:PE X e (up X.mg N m))(f:swapsWith e (some (.Name x pos')) pos.line X.env=pure false:=by rfl)(g:X.fn x=true\/X.env.scope.names.lookup x=some .local:=by first|exact .inl rfl|exact .inr rfl|assumption):
  PS X (.Assign [.Name x pos'] e pos) (cQ X.mg N (iK i m)):=je (Va b hi c d f g) λQ σ H q=>by
 obtain⟨A,ι,τ,R,S,q,k⟩:=q;exact⟨A,ι,τ,_,S,q,λv o h H1 u j a l n=>(k.nx.from a).here ((S.next a l).set n) j⟩
noncomputable def VT(i j:Nat)(n:dg):cK:=λR τ A=>n τ A λvs A1=>match vs with
 |[v,w]=>R.nx ((τ.set i (some v)).set j (some w)) A1
 |_=>False
theorem FD{i j:Nat}{x y:Str}{a b:Expr}{n:dg}{px py pt:Pos}{kt k2 d}(hc:X.calm=true)(h:X.N.Nodup)(hi:X.N[i]? =some x)(l:X.N[j]? =some y)(e:i≠j)
  (m:X.env.scope.names.lookup x=some .local)(o:X.env.scope.names.lookup y=some .local)(p:PA X [a,b] (fG X.mg N n))
  (r:swappedStores [.Tuple [.Name x px,.Name y py] kt pt] (.Tuple [a,b] k2 d) X.env=pure (some [x,y]))
  (s:swapsWithSole [.Tuple [.Name x px,.Name y py] kt pt] (.Tuple [a,b] k2 d) pos.line X.env=pure false:=by rfl):
  PS X (.Assign [.Tuple [.Name x px,.Name y py] kt pt] (.Tuple [a,b] k2 d) pos) (cQ X.mg N (VT i j n)):=je (U9 hc h hi l e m o p r s) λQ σ H q=>by
 obtain⟨A,ι,τ,R,S,q,k⟩:=q
 refine⟨A,ι,τ,_,S,q,λvs D t H1 E c g u f=> ?_⟩
 match vs,c,f with
 |[v,w],c,f=>
  obtain⟨z,_,rfl,h1,B,_,rfl,h2,C⟩:=f
  obtain rfl:=C
  exact⟨z,B,rfl,(k.nx.from g).here (((S.next g u).set h1).set h2) c⟩
 |[],c,_=>exact c.elim
 |[_],c,_=>exact c.elim
 |_::_::_::_,c,_=>exact c.elim
end
abbrev DX:=Str->Ar->Prop
abbrev Ct:=Bi->Ar->DK->DX->Prop
def L7(mg:aA)(A:Ar)(ι:Io)(H:Hp)(R:DX)(E:XK):Prop:=∀c A' ι' H' C,R c A'->mg c=some (.ref C)->Ext A ι H A' ι' H'->RA mg ι' H' A'->E (.ref C) none H'
noncomputable def au(mg:aA)(n:Nat)(S:Ct):Sp:=λvs H Q E=>∃A ι ds R RE,ds.length=n/\RA mg ι H A/\ao mg ι A.length H ds vs/\S ds A R RE/\Kt mg A ι H R Q/\L7 mg A ι H RE E
noncomputable def EL(mg:aA)(N:En)(R:DX):XK:=λC _ H'=>∃c A' ι',(∃a,C=.ref a/\mg c=some (.ref a))/\Ext N.A N.ι N.H A' ι' H'/\RA mg ι' H' A'/\R c A'
def iC(n:Nat)(S:Ct)(RE:DX)(m:dg):aO:=λτ A R=>m τ A λvs A1=>vs.length=n/\S vs A1 R RE
section
variable{k n:Nat}{x:Str}{ps:Ap}{S:Ct}{RE:DX}{e:Expr}{es:Dx}{m:dg}{p pos:Pos}
theorem NR(F:av X.prog X.w X.K X.mg X.base k x ps (au X.mg n S))(i:dW k X.A)(j:Passes (bU X.prog X.w) X (EL X.mg N RE))(l:PA X (e::es) (fG X.mg N m))(o:Gl X x:=by rfl)(a:(x==("__debug__":Str))=false:=by decide)
  (r:starEach (e::es) X.env=(false,eval e X.env)::starEach es X.env:=by rfl)(b:(backTo pos (starEach es X.env)).any (·.1)=false:=by rfl):
  PE X (.Call (.Name x p) (e::es) [] pos) (up X.mg N (iC n S RE m)):=dR (Um F i j l o a r b) λσ H Q q=>by
 obtain⟨A,ι,τ,R,Z,q,k⟩:=q;refine⟨A,ι,τ,_,Z,q,λvs s d H1 t g h u v=>?_⟩;show au X.mg n S (t++[]) H1 Q (EL X.mg N RE);rw[ko];exact⟨s,d,vs,R,RE,g.1,u,v,g.2,k.from h,λc y f H2 C z hc B D=>⟨c,y,f,⟨C,rfl,hc⟩,(Z.ex.trans h).trans B,D,z⟩⟩
end
def j7(n:Nat)(ds:Bi):bQ:=ds.map some++replicate n none
theorem wM:∀(ds:Bi) (n i:Nat) (d:D),lk (j7 n ds) i=some d->ds[i]?=some d
 |[],n,i,d,h=>by
  rw[qT] at h;simp[j7,zb] at h;split at h<;>simp at h
 |x::r,n,0,d,h=>by simpa[j7,lk] using h
 |x::r,n,i+1,d,h=>by simpa using wM r n i d h
theorem TopD.jf{P:Program}{w:World}{K:Frag}{mg:aA}{base:Heap}{x:Str}{st:Stmt}{Nm ps:Ap}{k n:Nat}{S:Ct}(T:TopD K mg x st ps)(Sc:bq Nm ps (aK st))(B:ps.length=n)(V:ps.length<=Nm.length)
  (g:∀(N:En) (RE:DX) (X:Cx),X.prog=P->X.w=w->X.K=K->X.mg=mg->X.base=base->X.N=Nm->X.calm=true->X.ex=[]->(∃f j A outer s H E,X=cR (bU P w) P w K mg base Nm x (aK st) f j A outer s H E)->dW k X.A->Raises X (EL X.mg N RE)->Passes (bU X.prog X.w) X (EL X.mg N RE)->
   ∀ds A R,S ds A R RE->ds.length=n->∃m,dw X (ig st) (cQ X.mg N m)/\m {nx:=λ_ A'=>R .aG A',rt:=R} (j7 (Nm.length - n) ds) A):av P w K mg base (k+1) x ps (au mg n S):=by
 refine T.fnX Sc (λvs H Q E h=> ?_) λf j A outer s H vs Q E D h=> ?_
 .obtain⟨A,ι,ds,R,RE,hl,_,o,_⟩:=h
  rw[<-ao.length o,hl,B]
 .obtain⟨p,l,ds,R,RE,hl,ra,o,F,u,G⟩:=h
  have y:∀C a H',EL mg ⟨p,l,H⟩ RE C a H'->E C none H':=λC a H' z=>by
   obtain⟨c,A',ι',⟨b,rfl,hc⟩,ex,r,q⟩:=z
   exact G c A' ι' H' b q hc ex r
  obtain⟨m,J,L⟩:=g ⟨p,l,H⟩ RE (cR (bU P w) P w K mg base Nm x (aK st) f j A outer s H E) rfl rfl rfl rfl rfl rfl rfl rfl ⟨_,_,_,_,_,_,_,rfl⟩ D
   (λae σ H1 t e h' C args I M z=>IZ ae σ H1 t e h' C args I M (y _ _ _ z))
   (λae σ H1 t e s' I z=>Ib ae σ H1 t e s' I (by
    obtain⟨a,C,H',h1,h2,O⟩:=z
    exact⟨a,C,H',h1,h2,y _ _ _ O⟩)) ds p R F hl
  have U:=ao.length o
  refine⟨_,J,p,l,_,_,⟨ra,⟨?_,λi d q=> ?_⟩,ra.refl⟩,L,⟨λτ A' ι' σ H' q e r _=>u _ A' ι' H' _ q e r rfl,u,λ_ _ _ _ _ q _ _ _=>q.elim,λ_ _ _ _ _ q _ _ _=>q.elim⟩⟩
  .simp[j7,L2.start]
   omega
  .obtain⟨v,h1,h2⟩:=ao.get o (wM ds _ i d q)
   refine⟨v,?_,h2⟩
   have hi:=(bP.mp h1).1
   unfold L2.start
   rw[gW (by simpa using hi),bM,h1]
   rfl
abbrev gX:=Bi->Ar->DK->Prop
def iz(mg:aA)(r:Bn->Hp->VK->Prop)(f:gX):Prop:=∀ds A ι H us R Q,RA mg ι H A->ao mg ι A.length H ds us->f ds A R->Kt mg A ι H R Q->r us H Q
def jv(f:gX)(m:dg):aO:=λτ A R=>m τ A λvs A1=>f vs A1 R
section
variable{e:Expr}{es:Dx}{m:dg}{p pos:Pos}{f:gX}{r:Bn->Hp->VK->Prop}{x:Str}{id T:String}
theorem Lc(h:iz X.mg r f){σ:St}{H:Hp}{Q:VK}(q:up X.mg N (jv f m) σ H Q):Co r (fG X.mg N m) σ H Q:=by
 obtain⟨A,ι,τ,R,S,q,k⟩:=q;exact⟨A,ι,τ,_,S,q,λvs b a H1 c d e g i=>h vs b a H1 c R Q g i d (k.from e)⟩
theorem dz(hc:eG X (.builtin id) r)(hd:iz X.mg r f)(c:X.mg x=none)(d:bootBuiltins x=some (.builtin id))(g:PA X (e::es) (fG X.mg N m))(i:Gl X x:=by rfl)(j:x≠"__name__":=by decide)(a:(x==("__debug__":Str))=false:=by decide)
 (k:starEach (e::es) X.env=(false,eval e X.env)::starEach es X.env:=by rfl)(b:(backTo pos (starEach es X.env)).any (·.1)=false:=by rfl):PE X (.Call (.Name x p) (e::es) [] pos) (up X.mg N (jv f m)):=dR (yc hc i c d g j a k b) λ_ _ _ h=>Lc hd h
theorem ie(hc:eG X (.type T) r)(hd:iz X.mg r f)(c:X.mg x=none)(d:bootBuiltins x=some (.type T))(g:PA X (e::es) (fG X.mg N m))(i:Gl X x:=by rfl)(j:x≠"__name__":=by decide)(a:(x==("__debug__":Str))=false:=by decide)
 (k:starEach (e::es) X.env=(false,eval e X.env)::starEach es X.env:=by rfl)(b:(backTo pos (starEach es X.env)).any (·.1)=false:=by rfl):PE X (.Call (.Name x p) (e::es) [] pos) (up X.mg N (jv f m)):=dR (Ul hc i c d g j a k b) λ_ _ _ h=>Lc hd h
end
@[irreducible] def wL(r:Nat)(A:Ar)(R:DK):Prop:=match A[r]? with
 |some (.lst xs)=>R (.int xs.length) A
 |some (.dct kvs)=>R (.int kvs.length) A
 |_=>False
noncomputable def Hi:gX:=λvs A R=>match vs with
 |[.tup xs]=>R (.int xs.length) A
 |[.str z]=>z.length<=sizeLine/\R (.int z.length) A
 |[.fl ns]=>R (.int ns.length) A
 |[.ref r]=>wL r A R
 |_=>False
theorem RK.length{mg:aA}{ι:Io}{H:Hp}:∀{ds:List (Key×D)} {vs:List (Key×V)} {n:Nat},RK mg ι n H ds vs->ds.length=vs.length
 |[],vs,_,h=>by have h':vs=[]:=h;rw[h'];rfl
 |d::ds,vs,n,h=>by
  obtain⟨x,r,rfl,_,a⟩:=h;simp[RK.length a]
theorem gI{X:Cx}:eG X (.builtin "len") (λxs H Q=>(∃p ys,xs=[.ref p]/\(aU X.K H p ys\/bL X.K H p ys)/\Q (.int ys.length) H)\/(∃z,xs=[.str z]/\z.length<=sizeLine/\Q (.int z.length) H)\/∃a kvs,xs=[V.ref a]/\H a=some (.dK kvs)/\Q (.int kvs.length) H):=MG.or (MH.or MF)
theorem a3{mg:aA}{K:Frag}:iz mg (λxs H Q=>(∃p ys,xs=[.ref p]/\(aU K H p ys\/bL K H p ys)/\Q (.int ys.length) H)\/(∃z,xs=[.str z]/\z.length<=sizeLine/\Q (.int z.length) H)\/∃a kvs,xs=[V.ref a]/\H a=some (.dK kvs)/\Q (.int kvs.length) H) Hi:=by
 intro ds A ι H c R Q ra rs h k;unfold Hi at h;split at h
 .obtain⟨_,_,rfl,⟨a,xs,rfl,d,b⟩,rfl⟩:=rs
  exact .inl ⟨a,xs,rfl,.inr (bL.of d),k.here ra h (by rw[ao.length b];rfl)⟩
 .obtain⟨_,_,rfl,rfl,rfl⟩:=rs
  exact .inr (.inl ⟨_,rfl,h.1,k.here ra h.2 rfl⟩)
 .obtain⟨_,_,rfl,⟨a,o,rfl,d⟩,rfl⟩:=rs
  exact .inl ⟨a,_,rfl,.inl (.inl (.inr ⟨o,d⟩)),k.here ra h (by rw[aQ];rfl)⟩
 .obtain⟨_,_,rfl,⟨_,rfl⟩,rfl⟩:=rs
  unfold wL at h;split at h
  .rename_i xs e
   obtain⟨c,h1,b⟩:=ra.lst e;exact .inl ⟨_,c,rfl,.inl (aU.of h1),k.here ra h (by rw[ao.length b];rfl)⟩
  .rename_i xs e
   obtain⟨c,h1,b⟩:=ra.dct e;exact .inr (.inr ⟨_,c,rfl,h1,k.here ra h (by rw[RK.length b];rfl)⟩)
  .exact h.elim
 .exact h.elim
@[irreducible] def wR(r:Nat)(A:Ar)(R:DK):Prop:=match A[r]? with
 |some (.lst xs)=>R (.ref A.length) (A++[.lst xs])
 |_=>False
noncomputable def Bx:gX:=λvs A R=>match vs with
 |[.tup xs]=>R (.ref A.length) (A++[.lst xs])
 |[.fl ns]=>R (.ref A.length) (A++[.lst (ns.map .int)])
 |[.ref r]=>wR r A R
 |_=>False
theorem E1{mg:aA}{K:Frag}:iz mg (λxs H Q=>∃p ys,xs=[.ref p]/\(aU K H p ys\/bL K H p ys)/\∀l,H l=none->Q (.ref l) (ax H l (.lst ys))) Bx:=by
 intro ds A ι H f R Q ra rs h k;unfold Bx at h;split at h
 .obtain⟨_,_,rfl,⟨a,xs,rfl,c,d⟩,rfl⟩:=rs
  exact⟨a,xs,rfl,.inr (bL.of c),λp b=>jE k ra d h b⟩
 .obtain⟨_,_,rfl,⟨a,o,rfl,c⟩,rfl⟩:=rs
  exact⟨a,_,rfl,.inl (.inl (.inr ⟨o,c⟩)),λp b=>jE k ra (ao.ints _) h b⟩
 .obtain⟨_,_,rfl,⟨_,rfl⟩,rfl⟩:=rs
  unfold wR at h;split at h
  .rename_i xs e
   obtain⟨f,h1,d⟩:=ra.lst e;exact⟨_,f,rfl,.inl (aU.of h1),λp b=>jE k ra d h b⟩
  .exact h.elim
 .exact h.elim
@[irreducible] def yC(r:Nat)(A:Ar)(R:DK):Prop:=match A[r]? with
 |some (.lst xs)=>R (.tup xs) A
 |_=>False
def K_:gX:=λvs A R=>match vs with
 |[.tup xs]=>R (.tup xs) A
 |[.ref r]=>yC r A R
 |_=>False
theorem E4{mg:aA}{K:Frag}:iz mg (λxs H Q=>∃p ys,xs=[.ref p]/\((aU K H p ys/\∀l,H l=none->Q (.ref l) (ax H l (.tup ys)))\/(bL K H p ys/\Q (.ref p) H))) K_:=by
 intro ds A ι H c R Q ra rs h k;unfold K_ at h;split at h
 .obtain⟨_,_,rfl,⟨a,xs,rfl,d,b⟩,rfl⟩:=rs
  exact⟨a,xs,rfl,.inr ⟨bL.of d,k.here ra h ⟨a,xs,rfl,d,b⟩⟩⟩
 .obtain⟨_,_,rfl,⟨_,rfl⟩,rfl⟩:=rs
  unfold yC at h;split at h
  .rename_i xs e
   obtain⟨c,h1,b⟩:=ra.lst e;exact⟨_,c,rfl,.inl ⟨aU.of h1,λp f=>qV k ra b h f⟩⟩
  .exact h.elim
 .exact h.elim
def ia:Bi->Option Fn
 |[]=>some []
 |.bl b::r=>(ia r).map (b::·)
 |_::_=>none
def jA:Bi->Option DD
 |[]=>some []
 |.int b::r=>(jA r).map (b::·)
 |_::_=>none
theorem sS{mg:aA}{ι:Io}{n:Nat}{H:Hp}:∀{ds:Bi} {a:Bn} {bs:Fn},ia ds=some bs->ao mg ι n H ds a->a=bs.map V.bl
 |[],a,bs,h,r=>by cases h;exact r
 |d::ds,a,bs,h,r=>by
  obtain⟨x,r',rfl,h1,h2⟩:=r;cases d with
  |bl b=>
   cases q:ia ds with
   |none=>simp[ia,q] at h
   |some l=>
    simp[ia,q] at h;subst h;rw[sS q h2];cases h1;rfl
  |_=>simp[ia] at h
theorem wI{mg:aA}{ι:Io}{n:Nat}{H:Hp}:∀{ds:Bi} {a:Bn} {bs:DD},jA ds=some bs->ao mg ι n H ds a->a=bs.map V.int
 |[],a,bs,h,r=>by cases h;exact r
 |d::ds,a,bs,h,r=>by
  obtain⟨x,r',rfl,h1,h2⟩:=r;cases d with
  |int b=>
   cases q:jA ds with
   |none=>simp[jA,q] at h
   |some l=>
    simp[jA,q] at h;subst h;rw[wI q h2];cases h1;rfl
  |_=>simp[jA] at h
@[irreducible] def allR(r:Nat)(A:Ar)(R:DK):Prop:=match A[r]? with
 |some (.lst xs)=>(match ia xs with
  |some bs=>R (.bl (bs.all id)) A
  |none=>False)
 |_=>False
def sO:gX:=λvs A R=>match vs with
 |[.ref r]=>allR r A R
 |_=>False
theorem oF{mg:aA}{K:Frag}:iz mg (λxs H Q=>∃(p:Addr) (bs:Fn),xs=[.ref p]/\aU K H p (bs.map V.bl)/\Q (.bl (bs.all id)) H) sO:=by
 intro ds A ι H a R Q ra rs h k;unfold sO at h;split at h
 .obtain⟨_,_,rfl,⟨_,rfl⟩,rfl⟩:=rs
  unfold allR at h;split at h
  .rename_i xs e
   split at h
   .rename_i bs b
    obtain⟨a,h1,c⟩:=ra.lst e;exact⟨_,bs,rfl,aU.of (by rw[h1,sS b c]),k.here ra h rfl⟩
   .exact h.elim
  .exact h.elim
 .exact h.elim
@[irreducible] def yu(r:Nat)(A:Ar)(R:DK):Prop:=match A[r]? with
 |some (.lst xs)=>(match jA xs with
  |some ns=>(∀n∈ns,0<=n/\n<=2 ^ 40)/\ns.length<=1000/\R (.int ns.sum) A
  |none=>False)
 |_=>False
def K1:gX:=λvs A R=>match vs with
 |[.ref r]=>yu r A R
 |_=>False
theorem NQ{mg:aA}{K:Frag}:iz mg (λxs H Q=>∃(p:Addr) (ns:DD),xs=[.ref p]/\aU K H p (ns.map V.int)/\(∀n∈ns,0<=n/\n<=2 ^ 40)/\ns.length<=1000/\Q (.int ns.sum) H) K1:=by
 intro ds A ι H a R Q ra rs h k;unfold K1 at h;split at h
 .obtain⟨_,_,rfl,⟨_,rfl⟩,rfl⟩:=rs
  unfold yu at h;split at h
  .rename_i xs e
   split at h
   .rename_i bs b
    obtain⟨a,h1,c⟩:=ra.lst e;exact⟨_,bs,rfl,aU.of (by rw[h1,wI b c]),h.1,h.2.1,k.here ra h.2.2 rfl⟩
   .exact h.elim
  .exact h.elim
 .exact h.elim
noncomputable def kZ(A:Ar):D->Option String
 |.aG=>some "NoneType"
 |.bl _=>some "bool"
 |.int _=>some "int"
 |.str _=>some "str"
 |.tup _=>some "tuple"
 |.fl _=>some "list"
 |.exc _=>none
 |.ref r=>match A[r]? with
  |some (.lst _)=>some "list"
  |some (.dct _)=>some "dict"
  |_=>none
def l9(t c:String):Bool:=t==c||(t=="bool"&&c=="int")
noncomputable def Ng(c:String)(m:aO):aO:=λτ A R=>m τ A λx A1=>match kZ A1 x with
 |some t=>R (.bl (l9 t c)) A1
 |none=>False
def tys:List String:=["NoneType","bool","int","str","tuple","list","dict"]
theorem Yp{A:Ar}{d:D}{t:String}(h:kZ A d=some t):t∈tys:=by
 cases d with
 |ref r=>
  unfold kZ at h;simp only at h;split at h<;>first|(cases h;decide)|cases h
 |exc c=>cases h
 |_=>cases h;decide
theorem RA.ty{mg:aA}{K:Frag}{A:Ar}{ι:Io}{H:Hp}(ra:RA mg ι H A){d:D}{v:V}{t:String}(h:kZ A d=some t)(r:RV mg ι A.length H d v):sL K H v (.type t):=by
 cases d with
 |aG=>cases h;cases r;exact .of .aG
 |bl b=>cases h;cases r;exact .of (.bl b)
 |int b=>cases h;cases r;exact .of (.int b)
 |str b=>cases h;cases r;exact .of (.str b)
 |tup ds=>cases h;obtain⟨a,xs,rfl,e,_⟩:=r;exact .of (.tup e)
 |fl ns=>cases h;obtain⟨a,o,rfl,e⟩:=r;exact .of (.bZ e)
 |exc c=>cases h
 |ref q=>
  obtain⟨_,rfl⟩:=r;unfold kZ at h;simp only at h;split at h
  .rename_i xs e
   cases h;obtain⟨f,h1,_⟩:=ra.lst e;exact .of (.lst h1)
  .rename_i xs e
   cases h;obtain⟨f,h1,_⟩:=ra.dct e;exact .of (.dK h1)
  .cases h
section
variable{e:Expr}{es:Dx}{m:aO}{p p2 pos:Pos}{x:Str}{c:String}
theorem jw(n:∀t∈tys,kitOne X.K (.type t) (.type c)=some (l9 t c))(o:X.mg "isinstance"=none)(b:X.mg x=none)(d:bootBuiltins x=some (.type c))(r:PE X e (up X.mg N m))(s:Gl X "isinstance":=by rfl)(f:Gl X x:=by rfl)(w:x≠"__name__":=by decide)(g:(x==("__debug__":Str))=false:=by decide)
  (h:starEach [e,.Name x p2] X.env=[(false,eval e X.env),(false,eval (.Name x p2) X.env)]:=by rfl):
  PE X (.Call (.Name "isinstance" p) [e,.Name x p2] [] pos) (up X.mg N (Ng c m)):=by
 have y:PE X (.Name x p2) (tC (.ty c)):=Ic f b d rfl w g;refine dR (yc ME s o boot_isinstance (nB r (nB y uA rfl) (by rw[h];rfl)) δ δ (by rw[h];rfl) rfl) λσ H Q q=>?_;obtain⟨A,ι,τ,R,S,q,k⟩:=q;refine⟨A,ι,τ,_,S,q,λv i z H1 u a B j C=>?_⟩;have a:(match kZ i v with|some t=>R (.bl (l9 t c)) i|none=>False):=a;split at a
 .rename_i t l
  exact⟨u,c,.type t,l9 t c,rfl,j.ty l C,n t (Yp l),(k.from B).here j a rfl⟩
 .exact a.elim
end
abbrev ja:=D->Bi->Ar->DK->Prop
def kD(mg:aA)(K:Frag)(T:String)(r:V->Bn->Hp->VK->Prop)(f:ja):Prop:=∀x ds A ι H u us R Q,RA mg ι H A->RV mg ι A.length H x u->ao mg ι A.length H ds us->f x ds A R->Kt mg A ι H R Q->r u us H Q
def oZ(A:Ar):D->Bool
 |.ref r=>match A[r]? with
  |some (.lst _)=>true
  |_=>false
 |_=>false
def ES(f:ja)(mo:aO)(m:dg):aO:=λτ A R=>mo τ A λx A1=>oZ A1 x=true/\m τ A1 λvs A2=>f x vs A2 R
theorem RA.oZ{mg:aA}{K:Frag}{A:Ar}{ι:Io}{H:Hp}(ra:RA mg ι H A){d:D}{v:V}(h:oZ A d=true)(r:RV mg ι A.length H d v):CG K "list" v H:=by
 cases d with
 |ref q=>
  obtain⟨_,rfl⟩:=r;unfold L2.oZ at h;simp only at h;split at h
  .rename_i xs e
   obtain⟨a,h1,_⟩:=ra.lst e;exact .inl ⟨rfl,a,aU.of h1⟩
  .cases h
 |_=>cases h
section
variable{e o:Expr}{es:Dx}{mo:aO}{m:dg}{apos cpos:Pos}{f:ja}{r:V->Bn->Hp->VK->Prop}{name:Str}{id:String}
theorem gJ(t:PlainAttrs "list")(slot:Slot "list" name id)(g:typeOf (.builtin id)=pure (.type "method_descriptor"))(v:zx X id r)(hd:kD X.mg X.K "list" r f)(w:PE X o (up X.mg N mo))(y:PA X (e::es) (fG X.mg N m))
  (b:attributeBase o name X.env (eval o X.env)=eval o X.env:=by rfl)
  (d:((backTo cpos (starEach (e::es) X.env)).all (λx=> !x.1)&&(backToKw cpos (keywordEach [] X.env)).all (λx=>x.1.isSome)
   &&decide ((e::es).length+([]:FC).length+(if ([]:FC).isEmpty then 0 else 1)<30))=true:=by rfl)
  (c:(apos.endLine==cpos.line)=true:=by rfl)(z:starEach (e::es) X.env=(false,eval e X.env)::starEach es X.env:=by rfl)(a:(backTo cpos (starEach es X.env)).any (·.1)=false:=by rfl):
  PE X (.Call (.Attribute o name apos) (e::es) [] cpos) (up X.mg N (ES f mo m)):=dR (Ie t slot g v w y b d c z a) λσ H Q q=>by
 obtain⟨A,ι,τ,R,S,q,k⟩:=q
 refine⟨A,ι,τ,_,S,q,λx B h H1 u j l n p=> ?_⟩
 refine⟨n.oZ j.1 p,B,h,τ,_,S.next l n,j.2,λys C i H2 D E s F v2=> ?_⟩
 exact hd x ys C i H2 u D R Q F (RV.ext s x u p) v2 E (k.from (l.trans s))
end
theorem B0{mg:aA}{A:Ar}{ι:Io}{H:Hp}{R:DK}{Q:VK}{ds es:Bi}{xs ys:Bn}{q:Nat}{d:D}{v:V}(k:Kt mg A ι H R Q)(r:RA mg ι H A)(a:A[q]?=some (.lst ds))(b:H (ι q)=some (.lst xs))(h:ao mg ι A.length H es ys)
  (c:R d (A.set q (.lst es)))(hd:∀H',RV mg ι A.length H' d v):Q v (ax H (ι q) (.lst ys)):=by
 have E:Ext A ι H (A.set q (.lst es)) ι (ax H (ι q) (.lst ys)):=r.oU (bP.mp a).1;obtain⟨e,f⟩:=r.put (c':=.lst es) (o:=.lst ys) a b rfl ⟨ys,d9,by simpa using ao.ext E es ys h⟩;exact k _ _ _ _ _ c f e (by simpa using hd _)
@[irreducible] def vG(r:Nat)(y:D)(A:Ar)(R:DK):Prop:=match A[r]? with
 |some (.lst xs)=>xs.length<sizeLine/\R .aG (A.set r (.lst (xs++[y])))
 |_=>False
def zP:ja:=λx vs A R=>match x,vs with
 |.ref r,[y]=>vG r y A R
 |_,_=>False
theorem oG{mg:aA}{K:Frag}:kD mg K "list" IB zP:=by
 intro x ds A ι H u d R Q ra b rs h k;unfold zP at h;split at h
 .obtain⟨_,rfl⟩:=b
  obtain⟨v,_,rfl,c,rfl⟩:=rs;unfold vG at h;split at h
  .rename_i xs e
   obtain⟨ws,h1,a⟩:=ra.lst e;exact⟨_,ws,v,rfl,rfl,h1,by rw[<-ao.length a];exact h.1,B0 k ra e h1 (a.app (es:=[_]) (ws:=[v]) ⟨v,[],rfl,c,rfl⟩) h.2 λ_=>rfl⟩
  .exact h.elim
 .exact h.elim
@[irreducible] def v9(r q:Nat)(A:Ar)(R:DK):Prop:=match A[r]?,A[q]? with
 |some (.lst xs),some (.lst ys)=>xs.length+ys.length<=sizeLine/\R .aG (A.set r (.lst (xs++ys)))
 |_,_=>False
def FZ:ja:=λx vs A R=>match x,vs with
 |.ref r,[.ref q]=>v9 r q A R
 |_,_=>False
theorem sY{mg:aA}{K:Frag}:kD mg K "list" IG FZ:=by
 intro x ds A ι H u f R Q ra c rs h k;unfold FZ at h;split at h
 .obtain⟨_,rfl⟩:=c
  obtain⟨v,_,rfl,⟨_,rfl⟩,rfl⟩:=rs;unfold v9 at h;split at h
  .rename_i xs ys e d
   obtain⟨ws,h1,a⟩:=ra.lst e;obtain⟨zs,h2,b⟩:=ra.lst d;exact⟨_,_,ws,zs,rfl,rfl,h1,h2,by rw[<-ao.length a,<-ao.length b];exact h.1,B0 k ra e h1 (a.app b) h.2 λ_=>rfl⟩
  .exact h.elim
 .exact h.elim
def VW(RE:DX)(c:Str)(m:dg):cK:=λ_ τ A=>m τ A λvs A1=>vs.length<=sizeLine/\RE c A1
theorem qE{X:Cx}{N:En}{RE:DX}{x:Str}{C:Addr}{e:Expr}{m:dg}{np cpos pos:Pos}(f:Raises X (EL X.mg N RE))(hc:X.calm=true)(c:X.mg x=some (.ref C))(g:excIn X.K C nF "ValueError.__new__"=true)(h:PA X [e] (fG X.mg N m))(i:Gl X x:=by rfl)(a:(x==("__debug__":Str))=false:=by decide)
  (j:starEach [e] X.env=[(false,eval e X.env)]:=by rfl):PS X (.Raise (some (.Call (.Name x np) [e] [] cpos)) none pos) (cQ X.mg N (VW RE x m)):=je (U_ f hc c g h i a j) λQ σ H q=>by
 obtain⟨A,ι,τ,R,S,q,k⟩:=q;exact⟨A,ι,τ,_,S,q,λvs l b H1 r d n o p=>⟨by rw[<-ao.length p];exact d.1,x,l,b,⟨C,rfl,c⟩,S.ex.trans n,o,d.2⟩⟩
def jY:D->Bool
 |.int _|.str _=>true
 |_=>false
def tE:D->D->Bool
 |.int i,.int j=>decide (i=j)
 |.str a,.str b=>decide (a=b)
 |_,_=>false
def qN(x:D)(xs:Bi):Bool:=xs.any λy=>tE y x
section
variable{mg:aA}{K:Frag}{A:Ar}{ι:Io}{H:Hp}{n:Nat}
theorem AF{d:D}{v:V}(h:jY d=true)(r:RV mg ι n H d v):kI v=true:=by
 cases d with
 |int i=>cases r;rfl
 |str i=>cases r;rfl
 |_=>cases h
theorem OB{d e:D}{u v:V}(h1:jY d=true)(h2:jY e=true)(b:RV mg ι n H d u)(a:RV mg ι n H e v):jx u v=tE d e:=by
 cases d with
 |int i=>
  cases b;cases e with
  |int j=>cases a;simp[jx,tE,Bool.beq_eq_decide_eq]
  |str j=>cases a;rfl
  |_=>cases h2
 |str i=>
  cases b;cases e with
  |int j=>cases a;rfl
  |str j=>cases a;simp[jx,tE,Bool.beq_eq_decide_eq]
  |_=>cases h2
 |_=>cases h1
theorem AZ{x:D}{v:V}(a:jY x=true)(b:RV mg ι n H x v):∀{ds:Bi} {vs:Bn},ds.all jY=true->ao mg ι n H ds vs->wG v vs=qN x ds/\vs.all kI=true
 |[],vs,_,r=>by cases (show vs=[] from r);exact⟨rfl,rfl⟩
 |d::ds,vs,h,r=>by
  obtain⟨y,r',rfl,h1,h2⟩:=r;have h':jY d=true/\ds.all jY=true:=by simpa using h
  obtain⟨c,e⟩:=AZ a b h'.2 h2;constructor
  .show(jx y v||wG v r')=(tE d x||qN x ds)
   rw[OB h'.1 a h1 b,c]
  .simp[AF h'.1 h1,e]
end
abbrev uF(neg:Bool):R2:=λx y H Q=>∃a o,y=.ref a/\qi H a x o/\Q (.bl (if neg then !o.isSome else o.isSome)) H
theorem BI{X:Cx}(e:X.A.units+64<cLine):bI X (compareOp .In) (uF false):=by
 intro ae s σ H x y v u Q I b c h;obtain⟨a,o,rfl,g,q⟩:=h;cases c;exact Nv ω I g b λf d=>⟨.bl o.isSome,H,d,rfl,q⟩
theorem To{X:Cx}(e:X.A.units+64<cLine):bI X (compareOp .NotIn) (uF true):=by
 intro ae s σ H x y v u Q I b c h;obtain⟨a,o,rfl,g,q⟩:=h;cases c;exact NH ω I g b λf d=>⟨.bl (!o.isSome),H,d,rfl,q⟩
@[irreducible] def inR(neg:Bool)(x:D)(r:Nat)(A:Ar)(R:DK):Prop:=match A[r]? with
 |some (.lst xs)=>jY x=true/\xs.all jY=true/\R (.bl (if neg then !qN x xs else qN x xs)) A
 |some (.dct kvs)=>(match gw x with
  |some k=>R (.bl (if neg then !(bF kvs k).isSome else (bF kvs k).isSome)) A
  |none=>False)
 |_=>False
noncomputable def inD(neg:Bool):fj:=λx y A R=>match y with
 |.tup xs=>jY x=true/\xs.all jY=true/\R (.bl (if neg then !qN x xs else qN x xs)) A
 |.ref r=>inR neg x r A R
 |_=>False
theorem EX{mg:aA}{K:Frag}(neg:Bool):eK mg (λx y H Q=>B6 K neg x y H Q\/uF neg x y H Q) (inD neg):=by
 intro x y A ι H u v R Q ra c l h k;unfold inD at h;split at h
 .obtain⟨a,xs,rfl,m,f⟩:=l
  obtain⟨g,i⟩:=AZ h.1 c h.2.1 f;exact .inl ⟨a,xs,rfl,.inr (bL.of m),AF h.1 c,i,by rw[g];exact k.here ra h.2.2 rfl⟩
 .obtain⟨_,rfl⟩:=l
  unfold inR at h;split at h
  .rename_i xs e
   obtain⟨j,h1,f⟩:=ra.lst e;obtain⟨g,i⟩:=AZ h.1 c h.2.1 f;exact .inl ⟨_,j,rfl,.inl (aU.of h1),AF h.1 c,i,by rw[g];exact k.here ra h.2.2 rfl⟩
  .rename_i kvs e
   obtain⟨j,h1,f⟩:=ra.dct e;split at h
   .rename_i b n
    cases o5 n c;obtain⟨g,i⟩:=RK.get (k:=b) f;refine .inr ⟨_,fQ j b,rfl,.inl ⟨j,b,.inl h1,rfl,rfl⟩,?_⟩;have o:(fQ j b).isSome=(bF kvs b).isSome:=by
     cases q:bF kvs b with
     |none=>rw[i q];rfl
     |some d=>obtain⟨z,hz,_⟩:=g d q;rw[hz];rfl
    rw[o];exact k.here ra h rfl
   .exact h.elim
  .exact h.elim
 .exact h.elim
section
variable{pos:Pos}{a b c:Expr}{ma mb mc:aO}{x:Str}
theorem vr(i:Nat)(b:X.N[i]?=some x:=by rfl)(c:qu X.env.scope x:=by first|exact Or.inl rfl|exact Or.inr (Or.inl rfl)|exact Or.inr (Or.inr rfl))(hd:(x==("__debug__":Str))=false:=by decide)
 (a:(x==("__classdict__":Str))=false:=by decide):PE X (.Name x pos) (up X.mg N (aT i)):=N3 b c hd a
theorem lX(c:X.A.units+64<cLine)(d:PE X a (up X.mg N ma))(e:PE X b (up X.mg N mb)):PE X (.Compare a [.Eq] [b] pos) (up X.mg N (br lY ma mb)):=sZ (HP c) EV d e (mh _)
theorem j8(c:X.A.units+64<cLine)(d:PE X a (up X.mg N ma))(e:PE X b (up X.mg N mb)):PT X (.Compare a [.Eq] [b] pos) (dU X.mg N (fU (br lY ma mb))):=m_ (HP c) EV d e (mh _)
theorem FI(c:X.A.units+64<cLine)(d:PE X a (up X.mg N ma))(e:PE X b (up X.mg N mb)):PE X (.Compare a [.NotEq] [b] pos) (up X.mg N (br pA ma mb)):=sZ (HQ c) E2 d e (mh _)
theorem jG(c:X.A.units+64<cLine)(d:PE X a (up X.mg N ma))(e:PE X b (up X.mg N mb)):PT X (.Compare a [.NotEq] [b] pos) (dU X.mg N (fU (br pA ma mb))):=m_ (HQ c) E2 d e (mh _)
theorem rD(c:PE X a (up X.mg N ma))(d:PE X b (up X.mg N mb)):PT X (.Compare a [.Lt] [b] pos) (dU X.mg N (fU (br wU ma mb))):=m_ Tn ND c d (mh _)
theorem Ot(c:PE X a (up X.mg N ma))(d:PE X b (up X.mg N mb)):PE X (.Compare a [.Gt] [b] pos) (up X.mg N (br wo ma mb)):=sZ HY EW c d (mh _)
theorem Cw(c:PE X a (up X.mg N ma))(d:PE X b (up X.mg N mb)):PT X (.Compare a [.Gt] [b] pos) (dU X.mg N (fU (br wo ma mb))):=m_ HY EW c d (mh _)
theorem e_is(c:PE X a (up X.mg N ma))(d:PE X b (up X.mg N mb)):PE X (.Compare a [.Is] [b] pos) (up X.mg N (br Bb ma mb)):=sZ TU Nz c d (mh _)
theorem Cz(c:PE X a (up X.mg N ma))(d:PE X b (up X.mg N mb)):PT X (.Compare a [.IsNot] [b] pos) (dU X.mg N (fU (br BH ma mb))):=m_ T8 NI c d (mh _)
theorem Cy(c:X.A.units+64<cLine)(d:PE X a (up X.mg N ma))(e:PE X b (up X.mg N mb))(f:behindInMarks .In b=false:=by rfl):PT X (.Compare a [.In] [b] pos) (dU X.mg N (fU (br (inD false) ma mb))):=m_ (TR.or (BI c)) (EX false) d e f
theorem uR(c:X.A.units+64<cLine)(d:PE X a (up X.mg N ma))(e:PE X b (up X.mg N mb))(f:behindInMarks .NotIn b=false:=by rfl):PT X (.Compare a [.NotIn] [b] pos) (dU X.mg N (fU (br (inD true) ma mb))):=m_ (T7.or (To c)) (EX true) d e f
theorem FH(d:PE X a (up X.mg N ma))(e:PE X b (up X.mg N mb))(hc:PE X c (up X.mg N mc))(f:lastMarks [.LtE,.LtE] [b,c]=false:=by with_unfolding_all rfl):PE X (.Compare a [.LtE,.LtE] [b,c] pos) (up X.mg N (sX qR qR ma mb mc)):=NT w_ w_ vP vP d e hc f
theorem K3(d:PE X a (up X.mg N ma))(e:PE X b (up X.mg N mb))(hc:PE X c (up X.mg N mc))(f:lastMarks [.LtE,.LtE] [b,c]=false:=by with_unfolding_all rfl):PT X (.Compare a [.LtE,.LtE] [b,c] pos) (dU X.mg N (fU (sX qR qR ma mb mc))):=Om w_ w_ vP vP d e hc f
end
theorem jf{P:Program}{w:World}{K:Frag}{mg:aA}{base:Heap}{x:Str}{st:Stmt}{Nm ps:Ap}{k n:Nat}{S:Ct}(T:TopD K mg x st ps)(Sc:bq Nm ps (aK st))(c:ps.length=n)(d:ps.length<=Nm.length)
  (b:∀(N:En) (RE:DX) (f:Addr) (a:Value) (B:Around) (outer:Fh) (s:Shared) (H:Hp) (E:XK),dW k (cR (bU P w) P w K mg base Nm x (aK st) f a B outer s H E).A->
   Raises (cR (bU P w) P w K mg base Nm x (aK st) f a B outer s H E) (EL mg N RE)->Passes (bU P w) (cR (bU P w) P w K mg base Nm x (aK st) f a B outer s H E) (EL mg N RE)->
   ∀ds A R,S ds A R RE->ds.length=n->∃m,dw (cR (bU P w) P w K mg base Nm x (aK st) f a B outer s H E) (ig st) (cQ mg N m)/\m {nx:=λ_ A'=>R .aG A',rt:=R} (j7 (Nm.length - n) ds) A):av P w K mg base (k+1) x ps (au mg n S):=by
 refine TopD.jf T Sc c d λN RE X _ _ _ _ _ _ _ _ e g i j ds A R h hl=>?_;obtain⟨f,a,B,outer,s,H,E,rfl⟩:=e;exact b N RE f a B outer s H E g i j ds A R h hl
noncomputable def VY(c:f7)(b:cK):cK:=λR τ A=>∃W:Nat->bQ->Ar->Prop,(∃n,W n τ A)/\∀n τ A,W n τ A->c τ A λk A1=>cond k (∃Nx:bQ->Ar->Prop,(∀bX A',Nx bX A'->∃n',n'<n/\W n' bX A')/\b {R with nx:=Nx,ct:=Nx,bk:=R.nx} τ A1) (R.nx τ A1)
section
variable{pos:Pos}{c:Expr}{body:Fu}{tc:f7}{tb:cK}
theorem As(y:PassesOwn (model X.prog X.w) X.A X.env X.xe)(hc:PT X c (dU X.mg N tc))(B:dw X body (cQ X.mg N tb)):PS X (.While c body [] pos) (cQ X.mg N (VY tc tb)):=je (Vc y hc B) λQ σ H q=>by
 obtain⟨A,ι,τ,R,S,⟨W,⟨n,C⟩,turn⟩,k⟩:=q;refine⟨λn σ' H'=>∃A' ι' bX,eB X.mg N A' ι' bX σ' H'/\Ext A ι H A' ι' H'/\W n bX A',⟨n,A,ι,τ,S,S.ra.refl,C⟩,?_⟩;rintro m D H1 ⟨x,o,d,g,h,E⟩;refine⟨x,o,d,_,g,turn m d x E,λb F p H2 j a l=>?_⟩;cases b with
 |true=>
  rw[aC rfl];obtain⟨G,I,j⟩:=j;refine⟨λσ' H'=>∃A' ι' bX,eB X.mg N A' ι' bX σ' H'/\Ext A ι H A' ι' H'/\G bX A',λσ' H' ⟨A',ι',bX,J,K,z⟩=>?_,?_⟩
  .obtain⟨L,M,O⟩:=I bX A' z
   exact⟨L,M,A',ι',bX,J,K,O⟩
  .refine⟨F,p,d,_,g.next a l,j,⟨?_,k.rt.from (h.trans a),k.nx.from (h.trans a),?_⟩⟩
   .exact λe r f s P t i u v=>⟨r,f,e,(g.next a l).to i u v,(h.trans a).trans i,t⟩
   .exact λe r f s P t i u v=>⟨r,f,e,(g.next a l).to i u v,(h.trans a).trans i,t⟩
 |false=>
  rw[ay cF];exact(k.nx.from (h.trans a)).here (g.next a l) j
end
structure lQ(mg:aA)(A0:Ar)(Lo:Io)(H0:Hp)(J:It)(items:Bi)(f_:Ar->Prop):Prop where
 go:∀(i:Nat) d A ι H,items[i]? =some d->Ext A0 Lo H0 A ι H->RA mg ι H A->f_ A->J.go i H/\∀x H',J.yJ i H x H'->Ext A ι H A ι H'/\RA mg ι H' A/\RV mg ι A.length H' d x
 stop:∀A ι H,Ext A0 Lo H0 A ι H->RA mg ι H A->f_ A->J.stop items.length H
abbrev jr:=bQ->Ar->(Bi->(Ar->Prop)->Ar->Prop)->Prop
noncomputable def j9(mg:aA)(N:En)(m:jr):TI:=λσ H Q=>∃A ι τ R,eB mg N A ι τ σ H/\m τ A R/\∀items f_ A' ι' H' J,R items f_ A'->Ext A ι H A' ι' H'->RA mg ι' H' A'->lQ mg A' ι' H' J items f_->Q J H'
theorem qD{X:Cx}{tg e:Expr}{t t':TI}(h:PI X tg e t)(w:∀σ H Q,t' σ H Q->t σ H Q):PI X tg e t':=λae s σ H Q I q=>h ae s σ H Q I (w σ H Q q)
section
variable{mg:aA}{K:Frag}{A:Ar}{ι:Io}{H:Hp}
theorem Rw{a:Addr}{ds:Bi}{xs:Bn}(f:H a=some (.tup xs))(g:ao mg ι A.length H ds xs):lQ mg A ι H (zv K a) ds (λ_=>True) where
 go:=λi d h c H1 hd e r _=>by
  have b:=e.fix rfl f;obtain⟨v,h1,h2⟩:=ao.get (ao.ext e ds xs g) hd;refine⟨⟨xs,v,bL.of b,h1⟩,λx H' y=>?_⟩;obtain⟨rfl,y⟩:=y;have:=y xs (bL.of b);rw[h1] at this;cases this;exact⟨r.refl,r,h2⟩
 stop:=λh c H1 e r _=>⟨xs,bL.of (e.fix rfl f),by rw[ao.length g];exact aJ _⟩
theorem Rp{a:Addr}{o:Obj}{ns:DD}(f:H a=some (.bZ o (.lst (ns.map V.int)))):lQ mg A ι H (vo K a) (ns.map D.int) (λ_=>True) where
 go:=λi d g b H1 hd e r _=>by
  have c:aU K H1 a (ns.map V.int):=.inl (.inr ⟨o,e.fix rfl f⟩);obtain⟨v,h1,h2⟩:=ao.get (ao.ints (mg:=mg) (ι:=b) (H:=H1) ns (n:=g.length)) hd;refine⟨⟨_,v,c,h1⟩,λx H' y=>?_⟩;obtain⟨rfl,y⟩:=y;have:=y _ c;rw[h1] at this;cases this;exact⟨r.refl,r,h2⟩
 stop:=λg b H1 e r _=>⟨_,.inl (.inr ⟨o,e.fix rfl f⟩),θ⟩
theorem Rr{q:Nat}{ds:Bi}(b:q<A.length):lQ mg A ι H (vo K (ι q)) ds (λA'=>A'[q]?=some (.lst ds)) where
 go:=λi d f a H1 hd e r hc=>by
  obtain⟨xs,h1,h2⟩:=r.lst hc;rw[e.ag q b] at h1;obtain⟨v,c,g⟩:=ao.get h2 hd;refine⟨⟨xs,v,aU.of h1,c⟩,λx H' y=>?_⟩;obtain⟨rfl,y⟩:=y;have:=y xs (aU.of h1);rw[c] at this;cases this;exact⟨r.refl,r,g⟩
 stop:=λf a H1 e r hc=>by
  obtain⟨xs,h1,h2⟩:=r.lst hc;rw[e.ag q b] at h1;exact⟨xs,aU.of h1,by rw[ao.length h2];exact aJ _⟩
def fF(lo:Int)(n:Nat):Bi:=(range n).map λ(i:Nat)=>D.int (lo+i)
theorem Ru{lo:Int}{n:Nat}:lQ mg A ι H (vp lo n) (fF lo n) (λ_=>True) where
 go:=λi d c a H1 hd e r _=>by
  unfold fF at hd;rw[bM] at hd;cases q:(range n)[i]? with
  |none=>rw[q] at hd;cases hd
  |some j=>
   rw[q] at hd;have hi:=(bP.mp q).1;have b:=(bP.mp q).2;simp at hi b;subst b;cases hd;refine⟨hi,λx H' y=>?_⟩;obtain⟨rfl,rfl⟩:=y;exact⟨r.refl,r,rfl⟩
 stop:=λc a H1 e r _=>by
  show n<=_;simp[fF]
def mz(z:Str):Bi:=z.cps.toList.map λc=>D.str ⟨#[c]⟩
theorem Rv{z:Str}:lQ mg A ι H (zu z) (mz z) (λ_=>True) where
 go:=λi d b a H1 hd e r _=>by
  unfold mz at hd;rw[bM] at hd;cases q:z.cps.toList[i]? with
  |none=>rw[q] at hd;cases hd
  |some j=>
   rw[q] at hd;cases hd;have hi:=(bP.mp q).1;refine⟨show i<z.cps.size by simpa using hi,λx H' y=>?_⟩;obtain⟨rfl,c,hc,rfl⟩:=y;have:z.cps.toList[i]?=some c:=by simpa using hc
   rw[q] at this;cases this;exact⟨r.refl,r,rfl⟩
 stop:=λb a H1 e r _=>by
  show _=_;simp[mz]
end
noncomputable def Q4(K:Frag)(tl:TE):TI:=λσ H R=>tl σ H λx H1=>(∃a,x=.ref a/\(∃xs,aU K H1 a xs)/\R (vo K a) H1)\/(∃a,x=.ref a/\(∃xs,bL K H1 a xs)/\R (zv K a) H1)
theorem UN{X:Cx}{tg l:Expr}{tl:TE}(hl:PE X l tl):PI X tg l (Q4 X.K tl):=by
 intro ae s σ H R I h;refine aN (hl ae s σ H _ I h) λv c ⟨x,H1,d,i,j⟩=>?_;rcases j with⟨a,e,⟨xs,f⟩,q⟩|⟨a,e,⟨xs,f⟩,q⟩
 .subst e
  cases i;obtain⟨its,k,p,hz⟩:=d.list f;refine pW p.isList ?_;refine⟨c.heap.objs.size,[c.heap.objs.size],_,_,H1,rfl,d.kept (t':=c.toks) λb o e=>bu _ e,Yj a _,⟨_,cy _ rfl,rfl,rfl⟩,λb g=>?_,q⟩;have e:b=c.heap.objs.size:=by simpa using g
  subst e;exact d.ng (aJ _) (d.ar.fresh (aJ _))
 .subst e
  cases i;obtain⟨its,k,p,hz⟩:=d.tuple f;refine wpAny_pyIter_tuple (show c.heap.IsTuple a its.toArray from p) ?_;refine⟨c.heap.objs.size,[c.heap.objs.size],_,_,H1,rfl,d.kept (t':=c.toks) λb o e=>bu _ e,Yo a _,⟨_,cy _ rfl,rfl,rfl⟩,λb g=>?_,q⟩;have e:b=c.heap.objs.size:=by simpa using g
  subst e;exact d.ng (aJ _) (d.ar.fresh (aJ _))
@[irreducible] def itR(r:Nat)(A:Ar)(R:Bi->(Ar->Prop)->Ar->Prop):Prop:=match A[r]? with
 |some (.lst xs)=>R xs (λA'=>A'[r]?=some (.lst xs)) A
 |_=>False
noncomputable def jz(m:aO):jr:=λτ A R=>m τ A λx A1=>match x with
 |.tup xs=>R xs (λ_=>True) A1
 |.fl ns=>R (ns.map .int) (λ_=>True) A1
 |.ref r=>itR r A1 R
 |_=>False
def Q6(m:aO):jr:=λτ A R=>m τ A λx A1=>match x with
 |.str z=>R (mz z) (λ_=>True) A1
 |_=>False
noncomputable def GO(n:dg):jr:=λτ A R=>n τ A λvs A1=>match vs with
 |[.int j]=> -(2 ^ 62)<=j/\j<2 ^ 62/\R (fF 0 j.toNat) (λ_=>True) A1
 |_=>False
section
variable{pos p:Pos}{tg e a b:Expr}{m:aO}{n:dg}{nm:Str}{px:Pos}
theorem cj(i:PE X e (up X.mg N m)):PI X tg e (j9 X.mg N (jz m)):=qD (UN i) λσ H Q q=>by
 obtain⟨A,ι,τ,R,S,q,k⟩:=q;refine⟨A,ι,τ,_,S,q,λx d c H1 u a g f h=>?_⟩;cases x with
 |tup ds=>
  obtain⟨b,xs,rfl,h1,h2⟩:=h;exact .inr ⟨b,rfl,⟨xs,bL.of h1⟩,k ds _ d c H1 _ a g f (Rw h1 h2)⟩
 |fl ns=>
  obtain⟨b,o,rfl,h1⟩:=h;exact .inl ⟨b,rfl,⟨_,.inl (.inr ⟨o,h1⟩)⟩,k _ _ d c H1 _ a g f (Rp h1)⟩
 |ref r=>
  obtain⟨j,rfl⟩:=h;have a:itR r d R:=a;unfold itR at a;split at a
  .rename_i xs e
   obtain⟨l,h1,_⟩:=f.lst e;exact .inl ⟨_,rfl,⟨l,aU.of h1⟩,k _ _ d c H1 _ a g f (Rr j)⟩
  .exact a.elim
 |_=>exact a.elim
theorem N_(c:PE X e (up X.mg N m)):PI X (.Name nm px) e (j9 X.mg N (Q6 m)):=qD (UO c) λσ H Q q=>by
 obtain⟨A,ι,τ,R,S,q,k⟩:=q;refine⟨A,ι,τ,_,S,q,λx d a H1 u b f g h=>?_⟩;cases x with
 |str z=>exact⟨z,h,k _ _ d a H1 _ b f g Rv⟩
 |_=>exact b.elim
theorem s9(e:X.mg "range"=none)(f:PA X [a] (fG X.mg N n))(g:Gl X "range":=by rfl)(h:starEach [a] X.env=[(false,eval a X.env)]:=by rfl):PI X tg (.Call (.Name "range" p) [a] [] pos) (j9 X.mg N (GO n)):=qD (UL g e f h) λσ H Q q=>by
 obtain⟨A,ι,τ,R,S,q,k⟩:=q;refine⟨A,ι,τ,_,S,q,λx i c H1 u b l m d=>?_⟩;match x,b,d with
 |[.int j],b,d=>
  obtain⟨_,_,rfl,rfl,rfl⟩:=d;exact⟨j,rfl,b.1,b.2.1,k _ _ i c H1 _ b.2.2 l m Ru⟩
end
noncomputable def oE(f_:Ar->Prop)(g:jO)(b:cK)(R:mS):Bi->bQ->Ar->Prop
 |[],τ,A=>f_ A/\R.nx τ A
 |x::xs,τ,A=>f_ A/\g x τ A λC6 A1=>b {R with nx:=oE f_ g b R xs,ct:=oE f_ g b R xs,bk:=R.nx} C6 A1
def uJ(it:jr)(g:jO)(b:cK):cK:=λR τ A=>it τ A λitems f_ A1=>oE f_ g b R items τ A1
theorem d8{X:Cx}{N:En}{pos:Pos}{tg iter:Expr}{body:Fu}{it:jr}{g:jO}{tb:cK}(P:PassesOwn (model X.prog X.w) X.A X.env X.xe)(hc:X.calm=true)(hi:PI X tg iter (j9 X.mg N it))(T:PG X tg (pP X.mg N g))(U:dw X body (cQ X.mg N tb))
  (V:∀x,foldedSetIterable iter X.env x=pure x:=by intro _;rfl):PS X (.For tg iter body [] pos) (cQ X.mg N (uJ it g tb)):=je (U7 P hc hi T U V) λQ σ H q=>by
 obtain⟨A,ι,τ,R,S,q,k⟩:=q;refine⟨A,ι,τ,_,S,q,λitems n v b H1 J W s M O=>?_⟩;have Y:=S.next s M;refine⟨λi m σ' H'=>m=items.length - i/\i<=items.length/\∃A' ι' bX,eB X.mg N A' ι' bX σ' H'/\Ext v b H1 A' ι' H'/\oE n g tb R (items.drop i) bX A',⟨_,rfl,cA _,v,b,τ,Y,M.refl,by simpa using W⟩,?_⟩;rintro i m Z H2 ⟨rfl,hi,B,c,C,d,f,h⟩;by_cases hl:i<items.length
 .right
  have hd:items.drop i=items[i]::items.drop (i+1):=by rw[nW hl]
  rw[hd] at h;obtain⟨o,h⟩:=h;obtain⟨g1,g2⟩:=O.go i items[i] B c H2 (by rw[a_ hl]) f d.ra o;refine⟨g1,λσ' H'=>∃A' ι' bX,eB X.mg N A' ι' bX σ' H'/\Ext v b H1 A' ι' H'/\oE n g tb R (items.drop (i+1)) bX A',λσ' H' ⟨A',ι',bX,z⟩=>⟨_,ω,rfl,hl,A',ι',bX,z⟩,λx H3 y=>?_⟩;obtain⟨p,t,v3⟩:=g2 x H3 y;refine⟨B,c,C,items[i],_,d.next p t,v3,h,λD A4 E YN H4 q4 u F s4=>?_⟩;have a:=p.trans u;refine⟨A4,E,D,_,(d.next p t).to u F s4,q4,⟨?_,k.rt.from ((s.trans f).trans a),k.nx.from ((s.trans f).trans a),?_⟩⟩
  .exact λj G l I H5 K r L s5=>⟨G,l,j,((d.next p t).to u F s4).to r L s5,(f.trans a).trans r,K⟩
  .exact λj G l I H5 K r L s5=>⟨G,l,j,((d.next p t).to u F s4).to r L s5,(f.trans a).trans r,K⟩
 .left
  have e:i=items.length:=ω
  subst e;rw[List.drop_length] at h;exact⟨O.stop B c H2 f d.ra h.1,(k.nx.from (s.trans f)).here d h.2⟩
noncomputable def rE:Option Nat->D->Option Bi
 |none,x=>some [x]
 |some k,.tup ds=>if ds.length=k then some ds else none
 |some _,_=>none
noncomputable def lV(f_:Ar->Prop)(k:Option Nat)(fr:bQ)(tt:f7)(te:aO)(R:Bi->Ar->Prop):Bi->Bi->Ar->Prop
 |[],ys,A=>f_ A/\R ys A
 |x::xs,ys,A=>f_ A/\match rE k x with
  |some vs=>tt (vs.map some++fr) A λb A3=>cond b (te (vs.map some++fr) A3 λy A4=>ys.length<sizeLine/\lV f_ k fr tt te R xs (ys++[y]) A4) (lV f_ k fr tt te R xs ys A3)
  |none=>False
noncomputable def ic(k:Option Nat)(ix:B2)(it:jr)(tt:f7)(te:aO):aO:=λτ A R=>it τ A λitems f_ A1=>lV f_ k (ix.map (lk τ)) tt te (λys A2=>R (.ref A2.length) (A2++[.lst ys])) items [] A1
def tL:Nat->Nat->kF
 |_,0=>Gn
 |i,n+1=>Gm (qL i) (tL (i+1) n)
def uS(K:Frag):Option Nat->TG
 |none=>qL 0
 |some k=>Gp K k (tL 0 k)
theorem GA{Q:St->Hp->Prop}{H:Hp}{fs:St}:∀(xs:Bn) (a:St),Q (a++(xs.map some++fs)) H->tL a.length xs.length xs (a++(replicate xs.length none++fs)) H Q
 |[],a,h=>⟨rfl,by simpa using h⟩
 |x::r,a,h=>by
  refine⟨x,r,rfl,?_⟩;show tL (a.length+1) r.length r ((a++(replicate (r.length+1) none++fs)).set a.length (some x)) H Q;have e:(a++(replicate (r.length+1) none++fs)).set a.length (some x)=(a++[some x])++(replicate r.length none++fs):=by
   rw[List.set_append_right _ _ (aJ _)];simp[lE]
  rw[e];have:=GA r (a++[some x]) (by simpa using h);simpa using this
theorem G5{fs:St}:∀(xs:St),iB (replicate xs.length none++fs) (xs++fs)
 |[]=>iB.refl fs
 |x::r=>.own (G5 r)
section
variable{mg:aA}{K:Frag}{A:Ar}{ι:Io}{H:Hp}
theorem X6{k:Option Nat}{d:D}{vs:Bi}{x:V}{n:Nat}(b:rE k d=some vs)(r:RV mg ι n H d x):∃xs,ao mg ι n H vs xs/\vs.length=k.getD 1/\∀(fs:St) (Q:St->Hp->Prop),Q (xs.map some++fs) H->uS K k x (replicate (k.getD 1) none++fs) H Q:=by
 cases k with
 |none=>
  cases b;exact⟨[x],⟨x,[],rfl,r,rfl⟩,rfl,λfs Q q=>q⟩
 |some k=>
  cases d with
  |tup ds=>
   have b:(if ds.length=k then some ds else none)=some vs:=b;by_cases hl:ds.length=k
   .rw[aC hl] at b
    cases b;obtain⟨a,xs,rfl,h1,h2⟩:=r;have c:=ao.length h2;refine⟨xs,h2,hl,λfs Q q=>⟨a,xs,rfl,bL.of h1,by rw[<-c];exact hl,?_⟩⟩;have:=GA (Q:=Q) (H:=H) (fs:=fs) xs [] q;show tL 0 k xs (replicate k none++fs) H Q;have e:k=xs.length:=by rw[<-c,hl]
    rw[e];exact this
   .rw[ay hl] at b
    cases b
  |_=>cases b
theorem RA.off(R:RA mg ι H A){p:Addr}{o u:HO}(a:∀r,r<A.length->ι r≠p)(d:H p=some u)(e:jD u=true):RA mg ι (ax H p o) A:=
 ⟨λr c h=>CO.ag (aJ _) (λ_ _=>rfl) (λb q m z=>by
  rw[aX]
  .exact z
  .rintro rfl
   rw[d] at z;cases z;rw[e] at m;cases m) (λq z=>by rw[aX (a r (bP.mp h).1)];exact z) c (R.iP r c h),R.inj⟩
end
theorem Xe{own:Ap}{ix:B2}{σ:St}:L2.stC own ix σ=replicate own.length none++ix.map λi=>(σ[i]?).join:=by
 unfold L2.stC;rw[List.map_const']
theorem Ht:∀(ds:Bi) (fr:bQ) (i:Nat) (d:D),lk (ds.map some++fr) i=some d->(ds[i]?=some d)\/(ds.length<=i/\lk fr (i - ds.length)=some d)
 |[],fr,i,d,h=>.inr ⟨cA _,by simpa using h⟩
 |x::r,fr,0,d,h=>.inl (by simpa[lk] using h)
 |x::r,fr,i+1,d,h=>by
  rcases Ht r fr i d (by simpa[lk] using h) with q|⟨a,b⟩
  .exact .inl (by simpa using q)
  .exact .inr ⟨by simpa using a,by simpa using b⟩
theorem RS.block{mg:aA}{ι:Io}{n:Nat}{H:Hp}{τ:bQ}{σ:St}{ix:B2}{vs:Bi}{xs:Bn}(r:RS mg ι n H τ σ)(h:ao mg ι n H vs xs):RS mg ι n H (vs.map some++ix.map (lk τ)) (xs.map some++ix.map λi=>(σ[i]?).join):=⟨by simp[ao.length h],λi d q=>by
 have hl:=ao.length h;rcases Ht vs _ i d q with q|⟨b,a⟩
 .obtain⟨v,h1,h2⟩:=ao.get h q
  have hi:=(bP.mp h1).1;exact⟨v,by rw[gW (by simpa using hi),bM,h1];rfl,h2⟩
 .rw[qT,bM] at a
  cases e:ix[i - vs.length]? with
  |none=>rw[e] at a;simp at a
  |some j=>
   rw[e] at a;have a:lk τ j=some d:=by simpa using a
   obtain⟨v,h1,h2⟩:=r.at' j d a;refine⟨v,?_,h2⟩;rw[qf (by simpa[<-hl] using b),bM,aQ,<-hl,e];simp[h1]⟩
section
variable{own aw:Ap}{ix:B2}{it:jr}{tt:f7}{te:aO}{k:Option Nat}
theorem CH(hk:own.length=k.getD 1){tT:CP->TT}(hT:∀c σ H Q,dU X.mg N tt σ H Q->tT c σ H Q){σ:St}{H:Hp}{Q:VK}(q:up X.mg N (ic k ix it tt te) σ H Q):Cr own ix (j9 X.mg N it) (λ_=>uS X.K k) tT (λ_=>up X.mg N te) σ H Q:=by
 obtain⟨A,ι,τ,R,S,q,kq⟩:=q;refine⟨A,ι,τ,_,S,q,λitems V A1 F H1 J q1 e1 r1 j1 c acc f=>?_⟩;have S1:=S.next e1 r1;rw[Xe,hk];have W:∀r,r<A1.length->F r≠acc:=λr n z=>by
  obtain⟨o,h1,_⟩:=r1.im r n;rw[z,f] at h1;cases h1
 have rn:=r1.qI (o:=.lst []) f;refine⟨λi m ys H'=>m=items.length - i/\i<=items.length/\∃A' ι' d,RA X.mg ι' H' A'/\Ext A1 F H1 A' ι' H'/\(∀r,r<A'.length->ι' r≠acc)/\H' acc=some (.lst ys)/\ao X.mg ι' A'.length H' d ys/\lV V k (ix.map (lk τ)) tt te (λys a=>R (.ref a.length) (a++[.lst ys])) (items.drop i) d A',
  ⟨_,rfl,cA _,A1,F,[],r1.fix rn (λb o z=>by rw[aX (c_ z f)];exact z),rn,W,d9,rfl,by simpa using q1⟩,?_⟩
 rintro i m ys H2 ⟨rfl,hi,a,g,d,r2,D,l,hy,ry,E⟩;refine⟨hy,?_⟩;by_cases hl:i<items.length
 .right
  have hd:items.drop i=items[i]::items.drop (i+1):=by rw[nW hl]
  rw[hd] at E;obtain⟨t,E⟩:=E;obtain⟨g1,g2⟩:=j1.go i items[i] a g H2 (by rw[a_ hl]) D r2 t;refine⟨g1,λM H'=>∃A' ι' I,RA X.mg ι' H' A'/\Ext A1 F H1 A' ι' H'/\(∀r,r<A'.length->ι' r≠acc)/\H' acc=some (.lst M)/\ao X.mg ι' A'.length H' I M/\lV V k (ix.map (lk τ)) tt te (λys a=>R (.ref a.length) (a++[.lst ys])) (items.drop (i+1)) I A',λM H' z=>⟨_,ω,rfl,hl,z⟩,λx H3 y=>?_⟩;obtain⟨e3,r3,v3⟩:=g2 x H3 y;split at E
  .rename_i vs hu
   obtain⟨xs,h1,h2,h3⟩:=X6 (K:=X.K) hu v3;refine h3 _ _ ⟨by have:=G5 (fs:=ix.map λi=>(σ[i]?).join) (xs.map some);rw[aQ,<-ao.length h1,h2] at this;exact this,?_⟩;have G:=D.trans e3;have S3:eB X.mg N a g (vs.map some++ix.map (lk τ)) (xs.map some++ix.map λi=>(σ[i]?).join) H3:=⟨r3,RS.block (S1.rs.ext G) h1,S1.ex.trans G⟩;have Y:H3 acc=some (.lst ys):=e3.mo acc _ hy l;refine hT _ _ _ _ ⟨a,g,_,_,S3,E,λb A4 O H4 q4 P r4=>?_⟩;have w:∀r,r<A4.length->O r≠acc:=λr n z=>by
    by_cases hl:r<a.length
    .rw[P.ag r hl] at z;exact l r hl z
    .have:=P.nw r ω n
     rw[z,Y] at this;cases this
   have T:H4 acc=some (.lst ys):=P.mo acc _ Y l;have Z:=ao.ext (e3.trans P) d ys ry;cases b with
   |true=>
    refine Rg ?_;refine⟨A4,O,_,_,S3.next P r4,q4,λv A5 Lp H5 u q5 e5 r5 v5=>?_⟩;have U:H5 acc=some (.lst ys):=e5.mo acc _ T w;have L:∀r,r<A5.length->Lp r≠acc:=λr n z=>by
     by_cases hl:r<A4.length
     .rw[e5.ag r hl] at z;exact w r hl z
     .have:=e5.nw r ω n
      rw[z,T] at this;cases this
    have Jd:=ao.ext e5 d ys Z;have p:=(G.trans P).trans e5;have fx:∀b o,jD o=false->H5 b=some o->ax H5 acc (.lst (ys++[u])) b=some o:=λb o m z=>by
     rw[aX]
     .exact z
     .rintro rfl
      rw[U] at z;cases z;cases m
    refine⟨U,by rw[<-ao.length Jd];exact q5.1,A5,Lp,d++[v],r5.off L U rfl,⟨p.len,p.ag,p.im,λb o z hn=>?_,p.nw,λb o z=>?_⟩,L,d9,?_,q5.2⟩
    .rw[aX (c_ z f)];exact p.mo b o z hn
    .obtain⟨o',h'⟩:=p.al b o z
     exact⟨o',by rw[aX (c_ z f)];exact h'⟩
    .exact ao.ag (aJ _) (λ_ _=>rfl) fx _ _ (Jd.app (es:=[v]) (ws:=[u]) ⟨u,[],rfl,v5,rfl⟩)
   |false=>
    refine Rf ?_;exact⟨A4,O,d,r4,G.trans P,w,T,Z,q4⟩
  .exact E.elim
 .left
  have e:i=items.length:=ω
  subst e;rw[List.drop_length] at E;obtain⟨t,E⟩:=E;refine⟨j1.stop a g H2 D r2 t,?_⟩;obtain⟨B,j,at2⟩:∃B:Io,(∀r,r<a.length->B r=g r)/\B a.length=acc:=⟨λr=>if r=a.length then acc else g r,λr h=>by
   show(if r=a.length then acc else g r)=g r;rw[ay ω],by
   show(if a.length=a.length then acc else g a.length)=acc;rw[aC rfl]⟩
  refine kq (.ref a.length) (a++[.lst d]) B H2 _ E (e1.trans ⟨by have:=D.len;simp;omega,λr h=>by rw[j r (cY h D.len)];exact D.ag r h,D.im,D.mo,λr h1 h2=>?_,D.al⟩) ⟨λr c h=>?_,λr s n hs h=>?_⟩ ⟨θ,by rw[at2]⟩
  .by_cases n:r<a.length
   .rw[j r n];exact D.nw r h1 n
   .have:r=a.length:=by simp at h2;omega
    subst this;rw[at2];exact f
  .by_cases n:r<a.length
   .rw[gW n] at h
    have:=CO.ag (n':=(a++[C.lst d]).length) (ι':=B) (H':=H2) θ j (λ_ _ _ z=>z) (λ_ z=>z) c (r2.iP r c h);rw[j r n];exact this
   .have hr':r=a.length:=by
     have:=(bP.mp h).1;simp at this;omega
    subst hr';simp at h;subst h;rw[at2];exact⟨ys,hy,ao.ag θ j (λ_ _ _ z=>z) d ys ry⟩
  .simp at n hs
   by_cases h1:r=a.length
   .by_cases h2:s=a.length
    .rw[h1,h2]
    .subst h1
     rw[at2,j s ω] at h;exact absurd h.symm (l s ω)
   .by_cases h2:s=a.length
    .subst h2
     rw[at2,j r ω] at h;exact absurd h (l r ω)
    .rw[j r ω,j s ω] at h
     exact r2.inj r s ω ω h
end
def iu:f7:=λ_ A R=>R true A
section
variable{own aw:Ap}{ix:B2}{it:jr}{tt:f7}{te:aO}(k:Option Nat){tg iter elt Ab:Expr}{scope:Scope}{pos:Pos}
theorem fk(a:own.length=k.getD 1)(hi:PI X tg iter (j9 X.mg N it))(b:∀c,PG (cG X (own++aw) scope c) tg (uS X.K k))(d:∀c,PE (cG X (own++aw) scope c) elt (up X.mg N te))(S:f6 X scope aw:=by exact⟨rfl,η,η,η,η,rfl⟩)(hc:X.calm=true:=by rfl)(e:ix.map (λi=>X.N[i]?)=aw.map some:=by rfl)(f:∀x,foldedSetIterable iter X.env x=pure x:=by intro _;rfl):
  PE X (.ListComp elt [⟨tg,iter,[],0⟩] scope pos) (up X.mg N (ic k ix it iu te)):=
 dR (Ur hi b (λc=>jR.nil) d S hc e f) λσ H Q q=>CH (own:=own) a (λ_ σ H Q h=>by
  obtain⟨A,ι,τ,R,S,h,k⟩:=h;exact k.here S.ra h) q
variable{i:Nat}{x:Str}{pos' spos:Pos}
theorem vZ(a:X.N.Nodup)(b:X.N[i]?=some x)(f:Loc X.env.scope x)(g:own.length=k.getD 1)(hi:PI X tg iter (j9 X.mg N it))(j:∀c,PG (cG X (own++aw) scope c) tg (uS X.K k))(l:∀c,PE (cG X (own++aw) scope c) elt (up X.mg N te))(S:f6 X scope aw:=by exact⟨rfl,η,η,η,η,rfl⟩)(hc:X.calm=true:=by rfl)(m:ix.map (λi=>X.N[i]?)=aw.map some:=by rfl)(n:∀x,foldedSetIterable iter X.env x=pure x:=by intro _;rfl)
  (d:swapsWith (.ListComp elt [⟨tg,iter,[],0⟩] scope pos) (some (.Name x pos')) spos.line X.env=pure true:=by rfl)(o:X.fn x=true\/X.env.scope.names.lookup x=some .local:=by first|exact .inl rfl|exact .inr rfl|assumption):
  PS X (.Assign [.Name x pos'] (.ListComp elt [⟨tg,iter,[],0⟩] scope pos) spos) (cQ X.mg N (iK i (ic k ix it iu te))):=
 je (Ir a b f hi j (λc=>jR.nil) l S hc m n d o) λQ σ H q=>by
  obtain⟨A,ι,τ,R,Z,q,k⟩:=q;exact CH (own:=own) g (λ_ σ H Q h=>by
   obtain⟨A,ι,τ,R,S,h,k⟩:=h;exact k.here S.ra h) ⟨A,ι,τ,_,Z,q,λv w p H1 u r e s t=>(k.nx.from e).here ((Z.next e s).set t) r⟩
theorem FA(a:X.N.Nodup)(b:X.N[i]?=some x)(f:Loc X.env.scope x)(g:own.length=k.getD 1)(hi:PI X tg iter (j9 X.mg N it))(j:∀c,PG (cG X (own++aw) scope c) tg (uS X.K k))(l:∀c,PT (cG X (own++aw) scope c) Ab (dU X.mg N tt))(m:∀c,PE (cG X (own++aw) scope c) elt (up X.mg N te))(S:f6 X scope aw:=by exact⟨rfl,η,η,η,η,rfl⟩)(hc:X.calm=true:=by rfl)(n:ix.map (λi=>X.N[i]?)=aw.map some:=by rfl)(o:∀x,foldedSetIterable iter X.env x=pure x:=by intro _;rfl)
  (d:swapsWith (.ListComp elt [⟨tg,iter,[Ab],0⟩] scope pos) (some (.Name x pos')) spos.line X.env=pure true:=by rfl)(p:X.fn x=true\/X.env.scope.names.lookup x=some .local:=by first|exact .inl rfl|exact .inr rfl|assumption):
  PS X (.Assign [.Name x pos'] (.ListComp elt [⟨tg,iter,[Ab],0⟩] scope pos) spos) (cQ X.mg N (iK i (ic k ix it tt te))):=
 je (Ir a b f hi j (λc=>jR.one (l c)) m S hc n o d p) λQ σ H q=>by
  obtain⟨A,ι,τ,R,Z,q,k⟩:=q;exact CH (own:=own) g (λ_ σ H Q h=>h) ⟨A,ι,τ,_,Z,q,λv y r H1 u s e t w=>(k.nx.from e).here ((Z.next e t).set w) s⟩
end
abbrev n_:=bQ->Ar->(Option Int->Ar->Prop)->Prop
noncomputable def rF(mg:aA)(N:En)(m:n_):TO:=λσ H Q=>∃A ι τ R,eB mg N A ι τ σ H/\m τ A R/\∀o A' ι' H',R o A'->Ext A ι H A' ι' H'->RA mg ι' H' A'->Q o H'
def oN:n_:=λ_ A R=>R none A
def oS(m:aO):n_:=λτ A R=>m τ A λx A1=>match x with
 |.int i=>R (some i) A1
 |_=>False
noncomputable def cutD(xs:Bi)(lo hi:Option Int):Bi:=(xs.drop (HT.aZ xs.length 0 lo)).take (HT.aZ xs.length xs.length hi - HT.aZ xs.length 0 lo)
theorem ao.cut{mg:aA}{ι:Io}{H:Hp}{n:Nat}{ds:Bi}{vs:Bn}(r:ao mg ι n H ds vs)(lo hi:Option Int):ao mg ι n H (cutD ds lo hi) (mZ vs lo hi):=by
 unfold cutD mZ;rw[<-ao.length r];exact(r.drop _).take _
@[irreducible] def uN(r:Nat)(lo hi:Option Int)(A:Ar)(R:DK):Prop:=match A[r]? with
 |some (.lst xs)=>R (.ref A.length) (A++[.lst (cutD xs lo hi)])
 |_=>False
def WZ(x:D)(lo hi:Option Int)(A:Ar)(R:DK):Prop:=match x with
 |.tup xs=>¬(HT.aZ xs.length 0 lo=0/\HT.aZ xs.length xs.length hi=xs.length)/\R (.tup (cutD xs lo hi)) A
 |.ref r=>uN r lo hi A R
 |_=>False
def Af(m:aO)(l u:n_):aO:=λτ A R=>m τ A λx A1=>l τ A1 λlo A2=>u τ A2 λhi A3=>WZ x lo hi A3 R
section
variable{pos p2:Pos}{e:Expr}{lo hi:Option Expr}{m:aO}{l u:n_}
theorem Fy{t t':TO}(h:PO X lo t)(w:∀σ H Q,t' σ H Q->t σ H Q):PO X lo t':=λae s σ H Q I q=>h ae s σ H Q I (w σ H Q q)
theorem vX:PO X none (rF X.mg N oN):=Fy UU λσ H Q q=>by
 obtain⟨A,ι,τ,R,S,q,k⟩:=q;exact k none A ι H q S.ra.refl S.ra
theorem vY(h:PE X e (up X.mg N m)):PO X (some e) (rF X.mg N (oS m)):=Fy (UW h) λσ H Q q=>by
 obtain⟨A,ι,τ,R,S,q,k⟩:=q;refine⟨A,ι,τ,_,S,q,λx c a H1 u b d f g=>?_⟩;cases x with
 |int i=>exact⟨i,g,k (some i) c a H1 b d f⟩
 |_=>exact b.elim
theorem E_(t:PE X e (up X.mg N m))(hl:PO X lo (rF X.mg N l))(w:PO X hi (rF X.mg N u)):PE X (.Subscript e (.Slice lo hi none p2) pos) (up X.mg N (Af m l u)):=
 dR (Ii (Ky.or W2) t hl w) λσ H Q q=>by
  obtain⟨A,ι,τ,R,S,q,k⟩:=q;refine⟨A,ι,τ,_,S,q,λx y d H1 v z f n B=>?_⟩;refine⟨y,d,τ,_,S.next f n,z,λC D g H2 E h F=>?_⟩;refine⟨D,g,τ,_,(S.next f n).next h F,E,λG I J L b o i=>?_⟩;have c:=(f.trans h).trans o;have s:=RV.ext (h.trans o) x v B;cases x with
  |tup ds=>
   obtain⟨a,xs,rfl,h1,h2⟩:=s;refine .inl ⟨a,xs,rfl,bL.of h1,by rw[<-ao.length h2];exact b.1,λp j=>qV (k.from c) i (h2.cut _ _) b.2 j⟩
  |ref r=>
   obtain⟨_,rfl⟩:=s;have b:uN r C G I R:=b;unfold uN at b;split at b
   .rename_i xs e
    obtain⟨K,h1,h2⟩:=i.lst e;exact .inr ⟨_,K,rfl,aU.of h1,λp j=>jE (k.from c) i (h2.cut _ _) b j⟩
   .exact b.elim
  |_=>exact b.elim
end
def kX:Bi->Option Ap
 |[]=>some []
 |.str b::r=>(kX r).map (b::·)
 |_::_=>none
theorem K0{mg:aA}{ι:Io}{n:Nat}{H:Hp}:∀{ds:Bi} {a:Bn} {bs:Ap},kX ds=some bs->ao mg ι n H ds a->a=bs.map V.str
 |[],a,bs,h,r=>by cases h;exact r
 |d::ds,a,bs,h,r=>by
  obtain⟨x,r',rfl,h1,h2⟩:=r;cases d with
  |str b=>
   cases q:kX ds with
   |none=>simp[kX,q] at h
   |some l=>
    simp[kX,q] at h;subst h;rw[K0 q h2];cases h1;rfl
  |_=>simp[kX] at h
theorem ao.strs{mg:aA}{ι:Io}{H:Hp}:∀(ns:Ap) {n:Nat},ao mg ι n H (ns.map D.str) (ns.map V.str)
 |[],_=>rfl
 |i::r,n=>⟨_,_,rfl,rfl,ao.strs r⟩
@[irreducible] def uO(r:Nat)(A:Ar)(R:DK):Prop:=match A[r]? with
 |some (.lst xs)=>(match kX xs with
  |some ss=>ss.length<64/\∀ys:Ap,ys.Pairwise strLt->(∀x,x∈ys↔x∈ss)->R (.ref A.length) (A++[.lst (ys.map D.str)])
  |none=>False)
 |_=>False
def Xa:gX:=λvs A R=>match vs with
 |[.ref r]=>uO r A R
 |_=>False
theorem Fd{X:Cx}{N:En}{e:Expr}{n:dg}{m p2 c a:Pos}(d:X.mg "sorted"=none)(f:X.mg "set"=none)(hc:X.calm=true)(o:PA X [e] (fG X.mg N n))(g:Gl X "sorted":=by rfl)(h:Gl X "set":=by rfl)
  (p:starEach [e] X.env=[(false,eval e X.env)]:=by rfl)(hz:starEach [.Call (.Name "set" p2) [e] [] a] X.env=[(false,eval (.Call (.Name "set" p2) [e] [] a) X.env)]:=by rfl):
  PE X (.Call (.Name "sorted" m) [.Call (.Name "set" p2) [e] [] a] [] c) (up X.mg N (jv Xa n)):=dR (UA d f hc o g h p hz) λσ H Q q=>by
 obtain⟨A,ι,τ,R,S,q,k⟩:=q;refine⟨A,ι,τ,_,S,q,λvs s t H1 u b v j i=>?_⟩;match vs,b,i with
 |[.ref r],b,i=>
  obtain⟨_,_,rfl,⟨_,rfl⟩,rfl⟩:=i;have b:uO r s R:=b;unfold uO at b;split at b
  .rename_i xs e
   split at b
   .rename_i ss es
    obtain⟨u,h1,h2⟩:=j.lst e;exact⟨_,ss,rfl,aU.of (by rw[h1,K0 es h2]),b.1,λl ys hl w x=>jE (k.from v) j (ao.strs ys) (b.2 ys w x) hl⟩
   .exact b.elim
  .exact b.elim
noncomputable def cP{β:Type}(kvs:List (Key×β))(k:Key)(v:β):List (Key×β):=
 if (kvs.any λkv=>decide (kv.1=k))=true then kvs.map (λkv=>if kv.1=k then (kv.1,v) else kv) else kvs++[(k,v)]
section
variable{mg:aA}{ι:Io}{H:Hp}{n:Nat}
theorem RK.any{k:Key}:∀{kvs:List (Key×D)} {xs:List (Key×V)},RK mg ι n H kvs xs->(kvs.any λa=>decide (a.1=k))=(xs.any λa=>decide (a.1=k))
 |[],xs,h=>by cases (show xs=[] from h);rfl
 |p::r,xs,h=>by
  obtain⟨x,r',rfl,h1,h2⟩:=h;rw[p8,p8,RK.any h2]
theorem RK.BC{k:Key}{d:D}{v:V}(c:RV mg ι n H d v):∀{kvs:List (Key×D)} {xs:List (Key×V)},RK mg ι n H kvs xs->RK mg ι n H (kvs.map λa=>if a.1=k then (a.1,d) else a) (xs.map λa=>if a.1=k then (a.1,v) else a)
 |[],xs,h=>by cases (show xs=[] from h);rfl
 |p::r,xs,h=>by
  obtain⟨x,r',rfl,h1,h2⟩:=h;rw[cJ,cJ];by_cases b:p.1=k
  .rw[aC b,aC b];exact⟨v,_,rfl,c,RK.BC c h2⟩
  .rw[ay b,ay b];exact⟨x,_,rfl,h1,RK.BC c h2⟩
theorem RK.app:∀{ds es:List (Key×D)} {vs ws:List (Key×V)},RK mg ι n H ds vs->RK mg ι n H es ws->RK mg ι n H (ds++es) (vs++ws)
 |[],_,vs,_,h,q=>by have h':vs=[]:=h;rw[h'];exact q
 |d::ds,es,vs,ws,h,q=>by
  obtain⟨x,r,rfl,a,b⟩:=h;exact⟨x,r++ws,rfl,a,RK.app b q⟩
theorem RK.put{k:Key}{d:D}{v:V}(a:RV mg ι n H d v){kvs:List (Key×D)}{xs:List (Key×V)}(h:RK mg ι n H kvs xs):RK mg ι n H (cP kvs k d) (putK xs k v):=by
 unfold cP putK;rw[RK.any h];split
 .exact RK.BC a h
 .exact h.app (es:=[(k,d)]) (ws:=[(k,v)]) ⟨v,[],rfl,a,rfl⟩
end
noncomputable def fO:Bi->Option (List (Key×D))
 |[]=>some []
 |.tup [a,b]::r=>(match gw a,fO r with
  |some k,some l=>some ((k,b)::l)
  |_,_=>none)
 |_::_=>none
def nD(ps:List (Key×D)):List (Key×D):=ps.foldl (λacc p=>cP acc p.1 p.2) []
section
variable{mg:aA}{K:Frag}{ι:Io}{H:Hp}{n:Nat}
theorem H9:∀{ds:Bi} {c:Bn} {ps:List (Key×D)},fO ds=some ps->ao mg ι n H ds c->∃qs,RK mg ι n H ps qs/\c.length=qs.length/\∀(i:Nat) (x:V) (p:Key×V),c[i]?=some x->qs[i]?=some p->∃t,x=.ref t/\bL K H t [kV p.1,p.2]
 |[],c,ps,h,r=>by
  cases h;cases (show c=[] from r);exact⟨[],rfl,rfl,λi x p e=>by simp at e⟩
 |.tup [a,b]::ds,c,ps,h,r=>by
  obtain⟨x,r',rfl,h1,h2⟩:=r;unfold fO at h;split at h
  .rename_i k l m o
   cases h;obtain⟨qs,q,s,u⟩:=H9 o h2;obtain⟨t,xs,rfl,v,B,_,rfl,w,d,_,rfl,y,A⟩:=h1;obtain rfl:=A;cases o5 m w;refine⟨(k,d)::qs,⟨d,qs,rfl,y,q⟩,by simp[s],λi z p hz j=>?_⟩;cases i with
   |zero=>
    have f:V.ref t=z:=by simpa using hz
    have g:(k,d)=p:=by simpa using j
    subst f g;exact⟨t,rfl,bL.of v⟩
   |succ i=>exact u i z p (by simpa using hz) (by simpa using j)
  .cases h
 |.aG::_,_,_,h,_=>by simp[fO] at h
 |.bl _::_,_,_,h,_=>by simp[fO] at h
 |.int _::_,_,_,h,_=>by simp[fO] at h
 |.str _::_,_,_,h,_=>by simp[fO] at h
 |.ref _::_,_,_,h,_=>by simp[fO] at h
 |.fl _::_,_,_,h,_=>by simp[fO] at h
 |.exc _::_,_,_,h,_=>by simp[fO] at h
 |.tup []::_,_,_,h,_=>by simp[fO] at h
 |.tup [_]::_,_,_,h,_=>by simp[fO] at h
 |.tup (_::_::_::_)::_,_,_,h,_=>by simp[fO] at h
theorem RK.fold{ps:List (Key×D)}{qs:List (Key×V)}(h:RK mg ι n H ps qs):∀{acc:List (Key×D)} {sM:List (Key×V)},RK mg ι n H acc sM->RK mg ι n H (ps.foldl (λacc p=>cP acc p.1 p.2) acc) (qs.foldl (λacc p=>putK acc p.1 p.2) sM):=by
 induction ps generalizing qs with
 |nil=>intro acc sM a;cases (show qs=[] from h);exact a
 |cons p r b=>
  intro acc sM a;obtain⟨x,r',rfl,h1,h2⟩:=h;exact b h2 (RK.put h1 a)
end
theorem HG{mg:aA}{A:Ar}{ι:Io}{H:Hp}{R:DK}{Q:VK}{ds:List (Key×D)}{xs:List (Key×V)}{p:Addr}(k:Kt mg A ι H R Q)(r:RA mg ι H A)(h:RK mg ι A.length H ds xs)(q:R (.ref A.length) (A++[.dct ds]))(a:H p=none):Q (.ref p) (ax H p (.dK xs)):=by
 have E:Ext A ι H (A++[.dct ds]) (λr=>if r=A.length then p else ι r) (ax H p (.dK xs)):=r.AD a;obtain⟨b,d⟩:=r.push (c:=.dct ds) (o:=.dK xs) a ⟨xs,d9,by simpa using RK.ext E ds xs h⟩;refine k _ _ _ _ _ q d b ⟨θ,?_⟩;show V.ref p=V.ref (if A.length=A.length then p else ι A.length);rw[aC rfl]
@[irreducible] def dctP(xs:Bi)(A:Ar)(R:DK):Prop:=match fO xs with
 |some ps=>ps.length<=1000/\R (.ref A.length) (A++[.dct (nD ps)])
 |none=>False
@[irreducible] def vR(r:Nat)(A:Ar)(R:DK):Prop:=match A[r]? with
 |some (.lst xs)=>dctP xs A R
 |_=>False
def E6:gX:=λvs A R=>match vs with
 |[.tup xs]=>dctP xs A R
 |[.ref r]=>vR r A R
 |_=>False
theorem RK.len'{mg:aA}{ι:Io}{H:Hp}{n:Nat}{ds:List (Key×D)}{vs:List (Key×V)}(h:RK mg ι n H ds vs):vs.length=ds.length:=(RK.length h).symm
theorem qz{mg:aA}{K:Frag}:iz mg (λxs H Q=>∃(p:Addr) (b:Bn) (ps:List (Key×V)),xs=[.ref p]/\(H p=some (.lst b)\/H p=some (.tup b))/\Pairs K H b ps/\ps.length<=1000/\∀d,H d=none->Q (.ref d) (ax H d (.dK (putAll ps)))) E6:=by
 intro ds A ι H f R Q ra rs h k;have fin:∀(xs:Bi) (b:Bn) (p:Addr),ao mg ι A.length H xs b->(H p=some (.lst b)\/H p=some (.tup b))->dctP xs A R->∃(q:Addr) (b:Bn) (ps:List (Key×V)),[V.ref p]=[.ref q]/\(H q=some (.lst b)\/H q=some (.tup b))/\Pairs K H b ps/\ps.length<=1000/\∀d,H d=none->Q (.ref d) (ax H d (.dK (putAll ps))):=λxs b p r i h=>by
  unfold dctP at h;split at h
  .rename_i ps ep
   obtain⟨qs,g,j,l⟩:=H9 (K:=K) ep r;exact⟨p,b,qs,rfl,i,⟨j,l⟩,by rw[RK.len' g];exact h.1,λd hd=>HG k ra (RK.fold g (acc:=[]) (sM:=[]) rfl) h.2 hd⟩
  .exact h.elim
 unfold E6 at h;split at h
 .obtain⟨_,_,rfl,⟨a,xs,rfl,m,c⟩,rfl⟩:=rs
  exact fin _ xs a c (.inr m) h
 .obtain⟨_,_,rfl,⟨_,rfl⟩,rfl⟩:=rs
  unfold vR at h;split at h
  .rename_i xs e
   obtain⟨f,h1,c⟩:=ra.lst e;exact fin _ f _ c (.inl h1) h
  .exact h.elim
 .exact h.elim
def Nj:aO:=λ_ A R=>R (.ref A.length) (A++[.dct []])
theorem Ak{X:Cx}{N:En}{pos:Pos}:PE X (.Dict [] [] pos) (up X.mg N Nj):=dR Ut λσ H Q q=>by
 obtain⟨A,ι,τ,R,S,q,k⟩:=q;exact λp a=>HG (ds:=[]) (xs:=[]) k S.ra rfl q a
@[irreducible] def uE(r:Nat)(y v:D)(A:Ar)(R:Ar->Prop):Prop:=match A[r]?,gw y with
 |some (.dct kvs),some k=>kvs.length<sizeLine/\R (A.set r (.dct (cP kvs k v)))
 |_,_=>False
noncomputable def VU(mo mi mv:aO):cK:=λR τ A=>mv τ A λv A1=>mo τ A1 λx A2=>mi τ A2 λy A3=>match x with
 |.ref r=>uE r y v A3 λA4=>R.nx τ A4
 |_=>False
theorem Aq{X:Cx}{N:En}{pos pos':Pos}{o i value:Expr}{mo s t:aO}(Y:X.A.units+64<cLine)(D:PE X o (up X.mg N mo))(hi:PE X i (up X.mg N s))(F:PE X value (up X.mg N t))(G:swapsWith value (some (.Subscript o i pos')) pos.line X.env=pure false):
  PS X (.Assign [.Subscript o i pos'] value pos) (cQ X.mg N (VU mo s t)):=je (U5 ω D hi F G) λQ σ H q=>by
 obtain⟨A,ι,τ,R,S,q,k⟩:=q;refine⟨A,ι,τ,_,S,q,λv I j H1 w J b l K=>?_⟩;refine⟨I,j,τ,_,S.next b l,J,λx L m H2 u M d B v2=>?_⟩;refine⟨L,m,τ,_,(S.next b l).next d B,M,λy O P Z z a f g T=>?_⟩;have n:=RV.ext (d.trans f) v w K;have p:=RV.ext f x u v2;cases x with
 |ref r=>
  obtain⟨_,rfl⟩:=p;have a:uE r y v O (λU=>R.nx τ U):=a;unfold uE at a;split at a
  .rename_i kvs h e V
   obtain⟨xs,h1,h2⟩:=g.dct e;cases o5 V T;refine⟨_,_,rfl,sA.k h1 (by rw[<-RK.length h2];exact a.1),?_⟩;have hl:=(bP.mp e).1;have E:=g.oU (o:=.dK (putK xs h w)) (c:=.dct (cP kvs h v)) hl;obtain⟨W,C⟩:=g.put (c':=.dct (cP kvs h v)) (o:=.dK (putK xs h w)) e h1 rfl ⟨_,d9,by simpa using RK.ext E _ _ (RK.put n h2)⟩;exact(k.nx.from (((b.trans d).trans f).trans C)).here ((((S.next b l).next d B).next f g).next C W) a.2
  .exact a.elim
 |_=>exact a.elim
noncomputable def Nf(x:Str)(m:aO):aO:=λτ A R=>m τ A λv A1=>match v with
 |.str y=>x.length+y.length<=sizeLine/\R (.str (x++y)) A1
 |_=>False
theorem NU{X:Cx}{N:En}{e:Expr}{m:aO}{x:Str}{k:Nat}{b p2 pos:Pos}(c:PE X e (up X.mg N m))(d:x.length<=sizeLine:=by decide):PE X (.JoinedStr [.Constant (.str x) k b,.FormattedValue e (-1) none p2] pos) (up X.mg N (Nf x m)):=
 dR (Uu c d) λσ H Q q=>by
  obtain⟨A,ι,τ,R,S,q,k⟩:=q;refine⟨A,ι,τ,_,S,q,λv j f H1 u a g h i=>?_⟩;cases v with
  |str y=>cases i;exact⟨y,rfl,a.1,(k.from g).here h a.2 rfl⟩
  |_=>exact a.elim
def ua:DX:=λ_ _=>False
theorem mj{X:Cx}{N:En}{P:Program}{w:World}:Passes (bU P w) X (EL X.mg N ua):=λae σ H s e s' I h=>by
 obtain⟨a,C,H',_,_,c,A',ι',_,_,_,z⟩:=h;exact z.elim
theorem RL{K:Frag}:∀t∈tys,kitOne K (.type t) (.type "bool")=some (l9 t "bool"):=by
 intro t a;simp only[tys,bx,gB,gC] at a;rcases a with rfl|rfl|rfl|rfl|rfl|rfl|rfl<;>rfl
theorem RM{K:Frag}:∀t∈tys,kitOne K (.type t) (.type "int")=some (l9 t "int"):=by
 intro t a;simp only[tys,bx,gB,gC] at a;rcases a with rfl|rfl|rfl|rfl|rfl|rfl|rfl<;>rfl
theorem wK{K:Frag}:∀t∈tys,kitOne K (.type t) (.type "str")=some (l9 t "str"):=by
 intro t a;simp only[tys,bx,gB,gC] at a;rcases a with rfl|rfl|rfl|rfl|rfl|rfl|rfl<;>rfl
theorem kit_tuple{K:Frag}:∀t∈tys,kitOne K (.type t) (.type "tuple")=some (l9 t "tuple"):=by
 intro t a;simp only[tys,bx,gB,gC] at a;rcases a with rfl|rfl|rfl|rfl|rfl|rfl|rfl<;>rfl
theorem RN{K:Frag}:∀t∈tys,kitOne K (.type t) (.type "list")=some (l9 t "list"):=by
 intro t a;simp only[tys,bx,gB,gC] at a;rcases a with rfl|rfl|rfl|rfl|rfl|rfl|rfl<;>rfl
theorem cI{b:Bool}{X Y:Prop}(h1:b=true->X)(h2:b=false->Y):cond b X Y:=by
 cases b with
 |true=>exact h1 rfl
 |false=>exact h2 rfl
theorem cD{p:Prop}[Decidable p]{X Y:Prop}(h1:p->X)(h2:¬p->Y):cond (decide p) X Y:=cI (λe=>h1 (fY e)) λe=>h2 (of_decide_eq_false e)
theorem cN{p:Prop}[Decidable p]{X Y:Prop}(h1:¬p->X)(h2:p->Y):cond (!decide p) X Y:=cI (λe=>h1 (of_decide_eq_false (by simpa using e))) λe=>h2 (fY (by simpa using e))
def eO(t:Nat)(A A':Ar):Prop:=∀q c,q≠t->A[q]?=some c->A'[q]?=some c
theorem eO.refl{t:Nat}{A:Ar}:eO t A A:=λ_ _ _ h=>h
theorem eO.trans{t:Nat}{A B C:Ar}(a:eO t A B)(b:eO t B C):eO t A C:=λq c n h=>b q c n (a q c n h)
theorem eO.set{t:Nat}{A:Ar}{c:C}:eO t A (A.set t c):=λq d n h=>by rw[fH (Ne.symm n)];exact h
def Tw(t n:Nat)(A:Ar):Prop:=∃xs,A[t]?=some (.lst xs)/\xs.length<=n
theorem Tw.mono{t n m:Nat}{A:Ar}(h:Tw t n A)(l:n<=m):Tw t m A:=let ⟨xs,a,b⟩:=h;⟨xs,a,dF b l⟩
theorem getElem?_push{A T:Ar}{q:Nat}{c:C}(h:A[q]?=some c):(A++T)[q]?=some c:=by
 have:=(bP.mp h).1;rw[gW this];exact h
def Gr(A A':Ar):Prop:=∃T,A'=A++T
theorem Gr.refl{A:Ar}:Gr A A:=⟨[],θ⟩
theorem Gr.push{A T:Ar}:Gr A (A++T):=⟨T,rfl⟩
theorem Gr.trans{A B C:Ar}(a:Gr A B)(b:Gr B C):Gr A C:=by
 obtain⟨T,rfl⟩:=a;obtain⟨c,rfl⟩:=b;exact⟨T++c,θ⟩
theorem Gr.get{A B:Ar}(a:Gr A B){q:Nat}{c:C}(h:A[q]?=some c):B[q]?=some c:=by
 obtain⟨T,rfl⟩:=a;exact getElem?_push h
theorem Gr.but{A B:Ar}{t:Nat}(a:Gr A B):eO t A B:=λ_ _ _ h=>a.get h
theorem Tw.gr{A B:Ar}{t n:Nat}(h:Tw t n A)(a:Gr A B):Tw t n B:=let ⟨xs,x,y⟩:=h;⟨xs,a.get x,y⟩
def Dz:Ct:=λds A R _=>∃ns k,ds=[.fl ns,.int k]/\0<=k/\∀i A',Gr A A'->R (.int i) A'
def DO:Ct:=λds A R _=>∃ns k m,ds=[.fl ns,.int k,.int m]/\0<=k/\0<m/\∀i A',0<=i->i<m->Gr A A'->R (.int i) A'
def sG:Ct:=λds A R _=>∃ns t m n,ds=[.fl ns,.ref t,.int m]/\Tw t n A/\n<1000000/\0<m/\∀i A',0<=i->i<m->eO t A A'->Tw t (n+1) A'->R (.int i) A'
def qt:Ct:=λds A R _=>∃ns t q xs n,ds=[.fl ns,.ref t,.ref q]/\q≠t/\A[q]?=some (.lst xs)/\xs≠[]/\Tw t n A/\n<1000000/\∀x A',x∈xs->eO t A A'->Tw t (n+1) A'->R x A'
theorem zS{α:Type}{xs:List α}{k:Int}(h0:0<=k)(h:k<(xs.length:Int)):∃v,cV xs k=some v/\v∈xs:=by
 have a:k.toNat<xs.length:=ω
 refine⟨xs[k.toNat],?_,lu a⟩;unfold cV j0;rw[aC h0,aC h];simp[a_ a]
theorem lay_ints:∀ns:DD,canLayAll0 (ns.map PyData.int)=true
 |[]=>by simp[canLayAll0]
 |n::r=>by simp[canLayAll0,canLay0,lay_ints r]
theorem aI{A:Ar}{c:C}:(A++[c])[A.length]?=some c:=θ
theorem OC{ns:DD}{A:Ar}{R:DK}(h:R (.bl (decide (ns=[]))) (A++[.lst []])):fD false (.fl ns) (.ref A.length) (A++[.lst []]) R:=by
 unfold fD;have a:cH (A++[.lst []]) (.ref A.length)=.list []:=by unfold cH;simp only[aI];rfl
 have b:cH (A++[.lst []]) (.fl ns)=.list (ns.map PyData.int):=by unfold cH;rfl
 refine⟨rfl,?_,?_,?_,?_,?_⟩
 .unfold iH;simp only[aI];rfl
 .rw[b];simpa[canLay0] using lay_ints ns
 .rw[a];simp[canLay0,canLayAll0]
 .rw[a];simp[PyData.depth,depthAll];omega
 .rw[b,a]
  have e:PyData.eqv (.list (ns.map PyData.int)) (.list [])=decide (ns=[]):=by cases ns<;>simp[PyData.eqv,eqvAll]
  rw[ay cF,e];exact h
section
variable{A:Ar}{r q t:Nat}{xs ys:Bi}{kvs:List (Key×D)}{R:DK}
theorem gf(h:A[r]?=some (.lst xs)):oZ A (.ref r)=true:=by unfold oZ;simp only[h]
theorem ou{y:D}(h:A[r]?=some (.lst xs))(hz:xs.length<sizeLine)(k:R .aG (A.set r (.lst (xs++[y])))):vG r y A R:=by
 unfold vG;simp only[h];exact⟨hz,k⟩
theorem tF(h:A[r]?=some (.lst xs))(h2:A[q]?=some (.lst ys))(hz:xs.length+ys.length<=sizeLine)(k:R .aG (A.set r (.lst (xs++ys)))):v9 r q A R:=by
 unfold v9;simp only[h,h2];exact⟨hz,k⟩
theorem kG(h:A[r]?=some (.lst xs))(h2:A[q]?=some (.lst ys))(hz:xs.length+ys.length<=sizeLine)(k:R (.ref A.length) (A++[.lst (xs++ys)])):vI r q A R:=by
 unfold vI;simp only[h,h2];exact⟨hz,k⟩
theorem nj(h:A[r]?=some (.lst xs))(k:R (.int xs.length) A):wL r A R:=by
 unfold wL;simp only[h];exact k
theorem jg{i:Int}{v:D}(h:A[r]?=some (.lst xs))(hi:cV xs i=some v)(k:R v A):l_ r (.int i) A R:=by
 unfold l_;simp only[h,hi];exact k
theorem La(h:A[r]?=some (.lst xs))(k:R (.tup xs) A):yC r A R:=by
 unfold yC;simp only[h];exact k
theorem Se(h:A[r]?=some (.lst xs))(k:R (.ref A.length) (A++[.lst xs])):wR r A R:=by
 unfold wR;simp only[h];exact k
theorem get_set(h:A[t]?=some (.lst xs)):(A.set t (.lst ys))[t]?=some (.lst ys):=by
 rw[fy (bP.mp h).1]
theorem dB{c:C}(h:A[t]?=some c):t<A.length:=(bP.mp h).1
end
theorem CQ{ns:DD}{its:BM}(r:Vals (ns.map V.int) its):∀(i:Nat) (v:Value),its.toArray[i]?=some v->∃t:Tok,v=Value.int (ns.getD i 0) t:=λi v h=>by
 have h':its[i]?=some v:=by simpa using h
 have hi:=(bP.mp h').1;have hl:=r.length;have a:i<(ns.map V.int).length:=ω
 obtain⟨u,e,b⟩:=r.get (a_ a);rw[h'] at e;cases e;rw[List.getElem_map] at b;obtain⟨t,rfl⟩:=b;refine⟨t,?_⟩;rw[fZ,a_ (by simpa using a)];rfl
theorem MI{X:Cx}(hc:X.calm=true):eG X (.builtin "max") (λxs H Q=>∃(p:Addr) (ns:DD),xs=[.ref p]/\(bL X.K H p (ns.map V.int)\/aU X.K H p (ns.map V.int))/\ns≠[]/\∀m∈ns,(∀n∈ns,n<=m)->Q (.int m) H):=by
 intro ae s σ H xs J Q I r h;obtain⟨p,ns,rfl,hq,w,q⟩:=h;obtain⟨u,rfl,B⟩:=vals1 r;cases B;have d:=uX.mpr w;have fin:∀(its:BM) (y:Obj),Vals (ns.map V.int) its->∀(v:Value) (h':Heap) (tk:Nat),its.toArray[argBest (λi j=>decide (ns.getD i 0>ns.getD j 0)) (its.toArray.size - 1)]?=some v->(∀b o,b∉[s.heap.objs.size]->(s.heap.push y).get? b=some o->h'.get? b=some o)->EP X ae σ Q v {s with heap:=h',toks:=tk}:=λits y c v h' tk f g=>by
  obtain⟨t,rfl⟩:=CQ c _ v f;have hl:its.toArray.size=ns.length:=by rw[bT,<-c.length,aQ]
  obtain⟨L,C⟩:=argBest_gt (λi=>ns.getD i 0) (its.toArray.size - 1);have hi:argBest (λi j=>decide (ns.getD i 0>ns.getD j 0)) (its.toArray.size - 1)<ns.length:=ω
  have k:ns.getD (argBest (λi j=>decide (ns.getD i 0>ns.getD j 0)) (its.toArray.size - 1)) 0∈ns:=by
   rw[fZ,a_ hi];exact lu hi
  have D:=q _ k λn E=>by
   obtain⟨j,F,e⟩:=jm E;have:=C j ω;rw[fZ,a_ F] at this;rw[<-e];exact this
  exact⟨.int _,H,I.kept λb o e=>g b o (λz=>by
   have G:b=s.heap.objs.size:=by simpa using z
   exact absurd (aW e) (by rw[G];exact fJ _)) (bu _ e),⟨_,rfl⟩,D⟩
 refine call_max_walk ?_;rcases hq with hq|hq
 .obtain⟨its,c,pl,hz⟩:=I.tuple hq
  have hsz:0<its.toArray.size:=by rw[bT,<-c.length,aQ];exact d
  have a:p<s.heap.objs.size:=pl.lt;refine wpAny_pyIter_tuple (show s.heap.IsTuple p its.toArray from pl) ⟨s.heap.objs.size,_,_,_,_,_,_,rfl,Walks.tuple (A:=X.A.in1) (I.ok.hd hc) s.heap.objs.size p (bJ a) its.toArray,⟨⟨_,cy _ rfl,rfl,rfl⟩,?_⟩,λb hb=>?_,hsz,CmpOf.ints_gt (λi=>ns.getD i 0) (CQ c),λv h' tk f g=>fin its _ c v h' tk f g⟩
  .obtain⟨o,l,r⟩:=(show s.heap.IsTuple p its.toArray from pl)
   exact⟨o,bu _ l,r⟩
  .show b<(s.heap.push _).objs.size
   rw[pR];rcases bx.mp hb with e|hb
   .rw[e];exact kc _
   .rw[bS.mp hb];exact gm a
 .obtain⟨its,c,pl,hz⟩:=I.list hq
  have hsz:0<its.toArray.size:=by rw[bT,<-c.length,aQ];exact d
  have x:=pl.isList;have a:p<s.heap.objs.size:=by obtain⟨o,l,_⟩:=x;exact aW l
  refine pW x ⟨s.heap.objs.size,_,_,_,_,_,_,rfl,Walks.list (A:=X.A.in1) (I.ok.hd hc) s.heap.objs.size p (bJ a) its.toArray,⟨⟨_,cy _ rfl,rfl,rfl⟩,?_⟩,λb hb=>?_,hsz,CmpOf.ints_gt (λi=>ns.getD i 0) (CQ c),λv h' tk f g=>fin its _ c v h' tk f g⟩
  .obtain⟨o,l,r⟩:=x
   exact⟨o,bu _ l,r⟩
  .show b<(s.heap.push _).objs.size
   rw[pR];rcases bx.mp hb with e|hb
   .rw[e];exact kc _
   .rw[bS.mp hb];exact gm a
@[irreducible] def t8(xs:Bi)(A:Ar)(R:DK):Prop:=match jA xs with
 |some ns=>ns≠[]/\∀m∈ns,(∀n∈ns,n<=m)->R (.int m) A
 |none=>False
@[irreducible] def wV(r:Nat)(A:Ar)(R:DK):Prop:=match A[r]? with
 |some (.lst xs)=>t8 xs A R
 |_=>False
def BD:gX:=λvs A R=>match vs with
 |[.tup xs]=>t8 xs A R
 |[.ref r]=>wV r A R
 |_=>False
theorem NF{mg:aA}{K:Frag}:iz mg (λxs H Q=>∃(p:Addr) (ns:DD),xs=[.ref p]/\(bL K H p (ns.map V.int)\/aU K H p (ns.map V.int))/\ns≠[]/\∀m∈ns,(∀n∈ns,n<=m)->Q (.int m) H) BD:=by
 intro ds A ι H g R Q ra rs h k;unfold BD at h;split at h
 .obtain⟨_,_,rfl,⟨a,xs,rfl,i,b⟩,rfl⟩:=rs
  unfold t8 at h;split at h
  .rename_i ns c
   exact⟨a,ns,rfl,.inl (bL.of (by rw[i,wI c b])),h.1,λm d f=>k.here ra (h.2 m d f) rfl⟩
  .exact h.elim
 .obtain⟨_,_,rfl,⟨_,rfl⟩,rfl⟩:=rs
  unfold wV at h;split at h
  .rename_i xs e
   obtain⟨g,h1,b⟩:=ra.lst e;unfold t8 at h;split at h
   .rename_i ns c
    exact⟨_,ns,rfl,.inr (aU.of (by rw[h1,wI c b])),h.1,λm d f=>k.here ra (h.2 m d f) rfl⟩
   .exact h.elim
  .exact h.elim
 .exact h.elim
noncomputable def VX(Tu:Ap)(len i:Nat)(m:DX->cK)(th:cK):cK:=λR τ A=>m (λc A'=>c∈Tu/\th {nx:=λ_ _=>False,rt:=R.rt} ((replicate len none).set i (some (.exc c))) A') R τ A
theorem Ol{X:Cx}{N:En}{D:Addr}{i:Nat}{n cn:Str}{b₀:Stmt}{suite body:Fu}{m:DX->cK}{th:cK}{np hpos pos:Pos}(l:Ap)(hex:X.ex=[])(v:X.stack=X.env::X.outer)(x:X.env.frame=some X.env.locals)(L:X.N.Nodup)(hi:X.N[i]? =some n)(hl:X.env.scope.names.lookup n=some .local)(O:X.mg cn=some (.ref D))
  (ar:∀c C,c∈l->X.mg c=some (.ref C)->exmOne X.K (.ref C) (.ref D)=some true)
  (P:∀(M:En) (RE:DX) (pn:bh) (E:aR),Passes (bU X.prog X.w) (X.tried pn E) (EL X.mg M RE)->dw (X.tried pn E) body (cQ X.mg M (m RE)))(T:∀(M:En) (e:Addr),dw (X.l7 e) (b₀::suite) (cQ X.mg M th))
  (U:Gl X cn:=by rfl)(y:(cn==("__debug__":Str))=false:=by decide):
  PS X (.Try body [.ExceptHandler (some (.Name cn np)) (some n) (b₀::suite) hpos] [] [] pos) (cQ X.mg N (VX l X.N.length i m th)):=by
 intro ae s σ H Dn I q
 obtain⟨A,ι,τ,R,S,q,k⟩:=q
 refine Vb (tb:=λpn E G Q σ' H'=>∃RE:DX,(∀C a H',EL X.mg ⟨A,ι,H⟩ RE C a H'->G C none H')/\cQ X.mg ⟨A,ι,H⟩ (m RE) Q σ' H') (th:=cQ X.mg ⟨A,ι,H⟩ th) hex v x L hi hl O (λpn E G V=> ?_) (T ⟨A,ι,H⟩) U y ae s σ H Dn I ?_
 .intro g s' σ' H' Q W z
  obtain⟨RE,Y,z⟩:=z
  exact P ⟨A,ι,H⟩ RE pn E (λae σ H1 Z e s' I z=>V ae σ H1 Z e s' I (by
   obtain⟨a,C,H2,h1,h2,h3⟩:=z
   exact⟨a,C,H2,h1,h2,Y _ _ _ h3⟩)) g s' σ' H' Q W z
 .intro pn E
  refine⟨_,λC a0 H' z=> ?_,A,ι,τ,R,⟨S.ra,S.rs,S.ra.refl⟩,q,k⟩
  obtain⟨c,A',ι',⟨u,rfl,hc⟩,e,r,B,ht⟩:=z
  refine⟨u,rfl,ar c u B hc,λa σ' f J=> ?_⟩
  have F:=r.qI (o:=qG a u) J
  have r1:=r.fix F λb o z=>by rw[aX (c_ z J)];exact z
  refine⟨A',ι',_,_,⟨r1,⟨by simp[f],λj d h=> ?_⟩,e.trans F⟩,ht,⟨λ_ _ _ _ _ z _ _ _=>z.elim,k.rt.from (e.trans F),λ_ _ _ _ _ z _ _ _=>z.elim,λ_ _ _ _ _ z _ _ _=>z.elim⟩⟩
  by_cases p:j=i
  .subst p
   by_cases t:j<X.N.length
   .rw[Bv _ _ _ (by simpa using t)] at h
    cases h
    exact⟨.ref a,by rw[fy (by rw[f];exact t)],a,u,rfl,hc,d9⟩
   .rw[List.set_eq_of_length_le (by simp;omega),qT,nZ (by simp;omega)] at h
    cases h
  .rw[Bu _ _ _ _ p,qT,zb] at h
   split at h<;>simp at h
open MA
abbrev M:=bK Str
abbrev _root_.D2:=List M
noncomputable def enc:M->D
 |.wt n=>.tup [.str "weight",.str n]
 |.cz l r a b=>.tup [.str "rod",.int l,.int r,enc a,enc b]
theorem gb{k:Option Nat}{fr:bQ}{te:aO}{a:Ar->Prop}{R:Bi->Ar->Prop}{A:Ar}(hc:a A)(f:D->D):∀(items ys:Bi),(∀x∈items,∃vs,rE k x=some vs/\∀Q:DK,Q (f x) A->te (vs.map some++fr) A Q)->ys.length+items.length<=sizeLine->R (ys++items.map f) A->lV a k fr iu te R items ys A
 |[],ys,_,_,h=>⟨hc,by simpa using h⟩
 |x::xs,ys,b,hl,h=>by
  obtain⟨vs,c,d⟩:=b x (bA ..);refine⟨hc,?_⟩;rw[c];refine d _ ⟨by simp at hl;omega,gb hc f xs (ys++[f x]) (λy e=>b y (bz _ e)) (by simp at hl ⊢;omega) (by simpa using h)⟩
theorem lU{α:Type}(f:α->Bool):∀xs:List α,ia (xs.map λx=>D.bl (f x))=some (xs.map f)
 |[]=>rfl
 |x::r=>by simp[ia,lU f r]
theorem ints_map{α:Type}(f:α->Int):∀xs:List α,jA (xs.map λx=>D.int (f x))=some (xs.map f)
 |[]=>rfl
 |x::r=>by simp[jA,ints_map f r]
theorem strs_map{α:Type}(f:α->Str):∀xs:List α,kX (xs.map λx=>D.str (f x))=some (xs.map f)
 |[]=>rfl
 |x::r=>by simp[kX,strs_map f r]
theorem oq{A:Ar}{r:Nat}{xs:Bi}{bs:Fn}{R:DK}(h:A[r]?=some (.lst xs))(a:ia xs=some bs)(k:R (.bl (bs.all id)) A):allR r A R:=by
 unfold allR;simp only[h,a];exact k
theorem Xo{A:Ar}{r:Nat}{xs:Bi}{ns:DD}{R:DK}(h:A[r]?=some (.lst xs))(a:jA xs=some ns)(h1:∀n∈ns,0<=n/\n<=2 ^ 40)(h2:ns.length<=1000)(k:R (.int ns.sum) A):yu r A R:=by
 unfold yu;simp only[h,a];exact⟨h1,h2,k⟩
theorem KR{A:Ar}{r:Nat}{xs:Bi}{ss:Ap}{R:DK}(h:A[r]?=some (.lst xs))(a:kX xs=some ss)(h2:ss.length<64)(k:∀ys:Ap,ys.Pairwise strLt->(∀x,x∈ys↔x∈ss)->R (.ref A.length) (A++[.lst (ys.map D.str)])):uO r A R:=by
 unfold uO;simp only[h,a];exact⟨h2,k⟩
theorem dJ{A:Ar}{r:Nat}{xs:Bi}{R:Bi->(Ar->Prop)->Ar->Prop}(h:A[r]?=some (.lst xs))(k:R xs (λA'=>A'[r]?=some (.lst xs)) A):itR r A R:=by
 unfold itR;simp only[h];exact k
structure Nm(n:Str):Prop where
 lo:1<=n.length
 hi:n.length<=3
 az:∀c∈n.cps.toList,97<=c/\c<=122
structure Wf(m:M):Prop where
 arms:m.arms
 nm:∀n∈m.names,Nm n
def SV(dom:Bi->D->Prop):Ct:=λds A R _=>∃v,dom ds v/\∀A',Gr A A'->R v A'
def SL(dom:Bi->Bi->Prop):Ct:=λds A R _=>∃v,dom ds v/\∀A' r,Gr A A'->A'[r]?=some (.lst v)->R (.ref r) A'
abbrev vD:Ct:=SV λds v=>∃i a b,ds=[.int i,.int a,.int b]/\v=.bl (decide (a<=i)&&decide (i<=b))
abbrev zF:Ct:=SV λds v=>∃n,ds=[.str n]/\Nm n/\v=.bl true
abbrev Mb(d:Nat):Ct:=SV λds v=>∃m,ds=[enc m,.int ((d:Int) - 1)]/\Wf m/\m.deep<d/\v=.bl true
abbrev Ma:Ct:=SV λds v=>∃m,ds=[enc m]/\Wf m/\m.deep<=5/\v=.bl true
abbrev zB:Ct:=SV λds v=>∃m,ds=[enc m]/\Wf m/\m.deep<=5/\v=.aG
theorem nc{P:Program}{w:World}{K:Frag}{mg:aA}{base:Heap}{x:Str}{st:Stmt}{ps:Ap}{k n:Nat}{S:Ct}(T:TopD K mg x st ps)(no:∀ds A R RE,¬S ds A R RE):av P w K mg base k x ps (au mg n S):=by
 obtain⟨f,fd,F,b,m⟩:=T;have a:∀vs H Q E,¬au mg n S vs H Q E:=λvs H Q E h=>by
  obtain⟨A,ι,ds,R,RE,_,_,_,z,_⟩:=h;exact no _ _ _ _ z
 exact⟨f,fd,⟨λvs H Q E h=>absurd h (a vs H Q E),λA outer s H args c vs Q E _ _ _ _ h=>absurd h (a vs H Q E)⟩,b,F.kp,m⟩
def cX(r:Str×Int):D:=.tup [.str r.1,.int r.2]
def iQ(rs:List (Str×Int)):D:=.tup (rs.map cX)
def fN(rs:List (Str×Int)):List (Key×D):=rs.map λr=>(Sum.inr r.1,.int r.2)
structure mW(rs:List (Str×Int)):Prop where
 nm:∀r∈rs,Nm r.1
 no:∀r∈rs,1<=r.2/\r.2<=999999
 up:(rs.map (·.1)).Pairwise strLt
 len:rs.length<64
def val(rs:List (Str×Int))(n:Str):Int:=((rs.find? λr=>r.1=n).map (·.2)).getD 0
def ld(f:Str->Int):M->Int
 |.wt n=>f n
 |.cz _ _ a b=>ld f a+ld f b
theorem Cm{a b:Str}(h:strLt a b):a≠b:=λe=>by
 subst e;exact lJ _ h
theorem qM:∀(rs:List (Str×Int)) (n:Str),n∈rs.map (·.1)->bF (fN rs) (Sum.inr n)=some (.int (val rs n))
 |[],n,h=>by simp at h
 |r::rs,n,h=>by
  unfold fN bF val;by_cases e:r.1=n
  .simp[e]
  .have h':n∈rs.map (·.1):=by
    rcases bx.mp (show n∈r.1::rs.map (·.1) from h) with q|q
    .exact absurd q.symm e
    .exact q
   have a:¬(Sum.inr r.1:Key)=Sum.inr n:=λz=>e (Sum.inr.inj z);have:=qM rs n h';simp only[cJ,a,gz,lM,e,decide_false];exact this
theorem Yy{rs:List (Str×Int)}(a:mW rs){n:Str}(h:n∈rs.map (·.1)):1<=val rs n/\val rs n<=999999:=by
 unfold val;cases q:rs.find? λr=>r.1=n with
 |none=>
  obtain⟨r,b,e⟩:=aS.mp h;have:=qc.mp q r b;simp[e] at this
 |some r=>
  have:=jJ q;exact a.no r this
theorem Iz{kvs:List (Key×D)}{k:Key}{v:D}(h:∀p∈kvs,p.1≠k):cP kvs k v=kvs++[(k,v)]:=by
 unfold cP;rw[ay];intro z;obtain⟨p,a,e⟩:=nQ.mp z;exact h p a (fY e)
theorem BZ:∀(rs:List (Str×Int)) (acc:List (Key×D)),(rs.map (·.1)).Pairwise strLt->(∀p∈acc,∀r∈rs,p.1≠Sum.inr r.1)->(fN rs).foldl (λacc p=>cP acc p.1 p.2) acc=acc++fN rs
 |[],acc,_,_=>by simp[fN]
 |r::rs,acc,f,c=>by
  have b:=i8.mp (show(r.1::rs.map (·.1)).Pairwise strLt from f);have e:cP acc (Sum.inr r.1) (.int r.2)=acc++[(Sum.inr r.1,.int r.2)]:=Iz λp a=>c p a r (bA ..);show(fN rs).foldl _ (cP acc (Sum.inr r.1) (.int r.2))=_;rw[e,BZ rs _ b.2]
  .simp[fN]
  .intro p a q d
   rcases cu.mp a with z|z
   .exact c p z q (bz _ d)
   .have g:p=(Sum.inr r.1,.int r.2):=by simpa using z
    subst g;exact λe=>Cm (b.1 q.1 (dN d)) (Sum.inr.inj e)
theorem BO:∀rs:List (Str×Int),fO (rs.map cX)=some (fN rs)
 |[]=>rfl
 |r::rs=>by
  have:=BO rs;simp only[cJ,cX,fO,gw,this,fN]
theorem Fq{rs:List (Str×Int)}(a:mW rs){A:Ar}{R:DK}(k:R (.ref A.length) (A++[.dct (fN rs)])):dctP (rs.map cX) A R:=by
 unfold dctP;rw[BO];refine⟨by simp[fN];have:=a.len;omega,?_⟩;unfold nD;rw[BZ rs [] a.up (λp h=>by simp at h)];exact k
theorem Fx{a:Ar->Prop}{g:jO}{b:cK}{R:mS}{A:Ar}(hc:a A)(I:bQ->Prop):∀(items:Bi) (τ:bQ),I τ->(∀x∈items,∀τ,I τ->∀c:bQ->Ar->Prop,(∀bX,I bX->c bX A)->g x τ A λd j=>b {R with nx:=c,ct:=c,bk:=R.nx} d j)->(∀τ,I τ->R.nx τ A)->oE a g b R items τ A
 |[],τ,e,_,h=>⟨hc,h τ e⟩
 |x::xs,τ,e,i,h=>⟨hc,i x (bA ..) τ e _ λbX f=>Fx hc I xs bX f (λy k=>i y (bz _ k)) h⟩
def kN:M->Str->List (Str×Str)
 |.wt n,w=>[(w,n)]
 |.cz _ _ a b,w=>kN a (w++"l")++kN b (w++"r")
theorem nu:∀(m:M) (w:Str),(kN m w).map (·.2)=m.names
 |.wt n,w=>rfl
 |.cz _ _ a b,w=>by
  show List.map _ (_++_)=a.names++b.names;rw[di,nu a,nu b]
theorem o8(m:M)(w:Str):(kN m w).length=m.names.length:=by rw[<-nu m w,aQ]
def iG(p:Str×Str):D:=.tup [.str p.1,.str p.2]
abbrev DQ:Ct:=SV λds v=>∃r:Str×Int,ds=[cX r]/\Nm r.1/\(1<=r.2/\r.2<=999999)/\v=.bl true
abbrev DI:Ct:=SV λds v=>∃rs,ds=[iQ rs]/\mW rs/\v=.bl true
abbrev DC:Ct:=SV λds v=>∃m rs,ds=[enc m,iQ rs]/\mW rs/\m.deep<=5/\(∀n∈m.names,n∈rs.map (·.1))/\v=.aG
abbrev qp(d:Nat):Ct:=SL λds v=>∃m w,ds=[enc m,.str w]/\m.deep<d/\w.length+d<=100/\d<=8/\v=(kN m w).map iG
def DL(d:Nat):Ct:=λds A R _=>∃m r rs,ds=[enc m,.ref r]/\A[r]?=some (.dct (fN rs))/\mW rs/\m.deep<=d/\(∀n∈m.names,n∈rs.map (·.1))/\∀A',Gr A A'->R (.int (ld (val rs) m)) A'
theorem Bo(f:Str->Int):∀m:M,(m.names.map f).sum=ld f m
 |.wt n=>by simp[bK.names,ld]
 |.cz _ _ a b=>by
  show List.sum (List.map f (a.names++b.names))=ld f a+ld f b;rw[di,List.sum_append,Bo f a,Bo f b]
theorem oB{k:Option Nat}{fr:bQ}{te:aO}{a:Ar->Prop}{R:Bi->Ar->Prop}(f:D->D):∀(items ys:Bi) (A:Ar),(∀A',Gr A A'->a A')->(∀x∈items,∀A',Gr A A'->∃vs,rE k x=some vs/\∀Q:DK,(∀b,Gr A' b->Q (f x) b)->te (vs.map some++fr) A' Q)->ys.length+items.length<=sizeLine->(∀A',Gr A A'->R (ys++items.map f) A')->lV a k fr iu te R items ys A
 |[],ys,A,hc,_,_,h=>⟨hc A Gr.refl,by simpa using h A Gr.refl⟩
 |x::xs,ys,A,hc,d,hl,h=>by
  obtain⟨vs,e,i⟩:=d x (bA ..) A Gr.refl;refine⟨hc A Gr.refl,?_⟩;rw[e];refine i _ λj c=>⟨by simp at hl;omega,oB f xs (ys++[f x]) j (λA' g=>hc A' (c.trans g)) (λy l A' g=>d y (bz _ l) A' (c.trans g)) (by simp at hl ⊢;omega) (λA' g=>by simpa using h A' (c.trans g))⟩
theorem Nm.ok{n:Str}(h:Nm n):canLay0 (.str n)=true:=by
 have e:n.cps.all (λc=>decide (c<0x110000))=true:=by
  rw[<-Array.all_toList,gp];intro c hc;have:=h.az c hc;exact dc ω
 simpa[canLay0,strOk] using e
theorem uD:∀ss:Ap,fP (ss.map D.str)=true
 |[]=>rfl
 |s::r=>by simp[fP,gO,uD r]
theorem rm:∀ss:Ap,bG (ss.map D.str)=ss.map PyData.str
 |[]=>rfl
 |s::r=>by simp[bG,toQ,rm r]
theorem tV:∀ss:Ap,(∀n∈ss,Nm n)->canLayAll0 (ss.map PyData.str)=true
 |[],_=>by simp[canLayAll0]
 |s::r,h=>by
  have h1:=(h s (bA ..)).ok;have h2:=tV r λn a=>h n (bz _ a);simp[canLayAll0,h1,h2]
theorem Am:∀ss:Ap,depthAll (ss.map PyData.str)=0
 |[]=>by simp[depthAll]
 |s::r=>by simp[depthAll,PyData.depth,Am r]
theorem FW:∀ss a:Ap,eqvAll (ss.map PyData.str) (a.map PyData.str)=decide (ss=a)
 |[],[]=>by simp[eqvAll]
 |[],_::_=>by simp[eqvAll]
 |_::_,[]=>by simp[eqvAll]
 |s::r,t::u=>by
  simp only[cJ,eqvAll,PyData.eqv,FW r u];by_cases h1:s=t
  .by_cases h2:r=u<;>simp[h1,h2]
  .simp[h1]
theorem FU{A:Ar}{r q:Nat}{ss a:Ap}{R:DK}(h1:A[r]?=some (.lst (ss.map D.str)))(h2:A[q]?=some (.lst (a.map D.str)))(n1:∀n∈ss,Nm n)(n2:∀n∈a,Nm n)(k:R (.bl (decide (ss=a))) A):fD false (.ref r) (.ref q) A R:=by
 have b:cH A (.ref r)=.list (ss.map PyData.str):=by unfold cH;simp only[h1,rm]
 have c:cH A (.ref q)=.list (a.map PyData.str):=by unfold cH;simp only[h2,rm]
 unfold fD;rw[b,c];refine⟨by unfold iH;simp only[h1,uD],by unfold iH;simp only[h2,uD],by simpa[canLay0] using tV ss n1,by simpa[canLay0] using tV a n2,by simp[PyData.depth,Am],?_⟩;rw[ay cF];show R (.bl (PyData.eqv (.list _) (.list _))) A;rw[show PyData.eqv (.list (ss.map PyData.str)) (.list (a.map PyData.str))=decide (ss=a) by simp only[PyData.eqv,FW]];exact k
theorem e9{A:Ar}{r:Nat}{kvs:List (Key×D)}{y v:D}{k:Key}{R:DK}(h:A[r]?=some (.dct kvs))(a:gw y=some k)(b:bF kvs k=some v)(q:R v A):l_ r y A R:=by
 unfold l_;simp only[h,a,b];exact q
theorem oY{A:Ar}{r:Nat}{kvs:List (Key×D)}{y:D}{k:Key}{R:DK}{neg:Bool}(h:A[r]?=some (.dct kvs))(a:gw y=some k)(q:R (.bl (if neg then !(bF kvs k).isSome else (bF kvs k).isSome)) A):inR neg y r A R:=by
 unfold inR;simp only[h,a];exact q
def rd(a b:Int):Int×Int:=(a/(Int.gcd a b:Int),b/(Int.gcd a b:Int))
abbrev zC:Ct:=SV λds v=>∃a b:Int,ds=[.int a,.int b]/\0<=a/\0<=b/\v=.int (Int.gcd a b:Int)
abbrev vE:Ct:=SV λds v=>∃a b:Int,ds=[.int a,.int b]/\0<a/\0<b/\a<2 ^ 2000/\v=.tup [.int (rd a b).1,.int (rd a b).2]
structure Bk(rs:List (Str×Int))(m:M):Prop where
 ok:mW rs
 nm:∀n∈m.names,n∈rs.map (·.1)
theorem Bk.left{rs:List (Str×Int)}{l r:Int}{a b:M}(h:Bk rs (.cz l r a b)):Bk rs a:=⟨h.ok,λn c=>h.nm n (by simp[bK.names,c])⟩
theorem Bk.right{rs:List (Str×Int)}{l r:Int}{a b:M}(h:Bk rs (.cz l r a b)):Bk rs b:=⟨h.ok,λn c=>h.nm n (by simp[bK.names,c])⟩
theorem Gr.len{A B:Ar}(a:Gr A B):A.length<=B.length:=by
 obtain⟨T,rfl⟩:=a;simp
structure Dr(t:Nat)(A A':Ar)(n k:Nat):Prop where
 but:eO t A A'
 tw:Tw t (n+k) A'
def b9(K:Frag)(mg:aA)(cv:Value)(jT:Str->Option Bool):Prop:=∀c C b,jT c=some b->mg c=some (.ref C)->oh K C/\kitOne K (.ref C) cv=some b
noncomputable def Ad(jT:Str->Option Bool)(m:aO):aO:=λτ A R=>m τ A λv A1=>match v with
 |.exc c=>(match jT c with
  |some b=>R (.bl b) A1
  |none=>False)
 |_=>False
section
variable{e:Expr}{m:aO}{p p2 pos:Pos}{x:Str}{jT:Str->Option Bool}
theorem Lf{y:V}{e:Value}(f:∀u,RelV y u->u=e)(g:b9 X.K X.mg e jT){σ:St}{H:Hp}{Q:VK}(q:up X.mg N (Ad jT m) σ H Q):up X.mg N m σ H (λv H'=>∃(a:Addr) (z:V) (C:Addr) (c:Value) (b:Bool),[v,y]=[.ref a,z]/\(∀u,RelV z u->u=c)/\H' a=some (qG a C)/\oh X.K C/\kitOne X.K (.ref C) c=some b/\Q (.bl b) H'):=by
 obtain⟨A,ι,τ,R,S,q,k⟩:=q;refine⟨A,ι,τ,_,S,q,λv h i H1 u d j l n=>?_⟩;cases v with
 |exc c=>
  obtain⟨a,C,rfl,hc,o⟩:=n;have d:(match jT c with|some b=>R (.bl b) h|none=>False):=d;split at d
  .rename_i b p
   obtain⟨r,s⟩:=g c C b p hc;exact⟨a,y,C,e,b,rfl,f,o,r,s,(k.from j).here l d rfl⟩
  .exact d.elim
 |_=>exact d.elim
theorem m7{D:Addr}(d:X.mg "isinstance"=none)(f:X.mg x=some (.ref D))(g:b9 X.K X.mg (.ref D) jT)(h:PE X e (up X.mg N m))(i:Gl X "isinstance":=by rfl)(a:Gl X x:=by rfl)(b:(x==("__debug__":Str))=false:=by decide)
  (c:starEach [e,.Name x p2] X.env=[(false,eval e X.env),(false,eval (.Name x p2) X.env)]:=by rfl):
  PE X (.Call (.Name "isinstance" p) [e,.Name x p2] [] pos) (up X.mg N (Ad jT m)):=by
 have j:PE X (.Name x p2) (tC (.ref D)):=BR a f rfl b;exact dR (yc Eo i d boot_isinstance (nB h (nB j uA rfl) (by rw[c];rfl)) δ δ (by rw[c];rfl) rfl) λσ H Q q=>Lf (y:=.ref D) (λ_ r=>r) g q
theorem NV{c:String}(h:X.mg "isinstance"=none)(a:X.mg x=none)(b:bootBuiltins x=some (.type c))(i:b9 X.K X.mg (.type c) jT)(j:PE X e (up X.mg N m))(k:Gl X "isinstance":=by rfl)(d:Gl X x:=by rfl)(l:x≠"__name__":=by decide)(f:(x==("__debug__":Str))=false:=by decide)
  (g:starEach [e,.Name x p2] X.env=[(false,eval e X.env),(false,eval (.Name x p2) X.env)]:=by rfl):
  PE X (.Call (.Name "isinstance" p) [e,.Name x p2] [] pos) (up X.mg N (Ad jT m)):=by
 have n:PE X (.Name x p2) (tC (.ty c)):=Ic d a b rfl l f;exact dR (yc Eo k h boot_isinstance (nB j (nB n uA rfl) (by rw[g];rfl)) δ δ (by rw[g];rfl) rfl) λσ H Q q=>Lf (y:=.ty c) (λ_ r=>r) i q
end
section
variable{k n:Nat}{x:Str}{ps:Ap}{S:Ct}{e:Expr}{es:Dx}{m:dg}{p pos:Pos}
theorem NS(F:qm X.prog X.w X.K X.mg X.base k x ps (au X.mg n S))(g:lR k X.A)(h:PA X (e::es) (fG X.mg N m))(i:Gl X x:=by rfl)(a:(x==("__debug__":Str))=false:=by decide)
  (j:starEach (e::es) X.env=(false,eval e X.env)::starEach es X.env:=by rfl)(b:(backTo pos (starEach es X.env)).any (·.1)=false:=by rfl):
  PE X (.Call (.Name x p) (e::es) [] pos) (up X.mg N (iC n S (λ_ _=>False) m)):=dR (Uk F g h i a j b) λσ H Q q=>by
 obtain⟨A,ι,τ,R,Z,q,k⟩:=q;refine⟨A,ι,τ,_,Z,q,λvs l d H1 o f r s t=>?_⟩;show au X.mg n S (o++[]) H1 Q E0;rw[ko];exact⟨l,d,vs,R,_,f.1,s,t,f.2,k.from r,λc y u H2 C v hc z B=>v.elim⟩
end
theorem P5{P:Program}{w:World}{K:Frag}{mg:aA}{base:Heap}{x:Str}{st:Stmt}{Nm ps:Ap}{k n:Nat}{S:Ct}(T:TopD K mg x st ps)(Sc:bq Nm ps (aK st))(o:ps.length=n)(C:ps.length<=Nm.length)
  (b:∀(N:En) (f:Addr) (a:Value) (B:Around) (outer:Fh) (s:Shared) (H:Hp) (E:XK),lR k (B.deeper (envOfC x (aK st) s.heap.objs.size f a))->
   ∀ds A R RE,S ds A R RE->ds.length=n->∃m,dw ((cR qh P w K mg base Nm x (aK st) f a {B with handled:=Option.none} outer s H E).loud (B.deeper (envOfC x (aK st) s.heap.objs.size f a))) (ig st) (cQ mg N m)/\m {nx:=λ_ A'=>R .aG A',rt:=R} (j7 (Nm.length - n) ds) A):qm P w K mg base (k+1) x ps (au mg n S):=by
 refine T.P4 Sc (λvs H Q E h=>?_) λf a A outer s H vs Q E p h=>?_
 .obtain⟨A,ι,ds,R,RE,hl,_,g,_⟩:=h
  rw[<-ao.length g,hl,o]
 .obtain⟨j,c,ds,R,RE,hl,ra,g,t,l,D⟩:=h
  obtain⟨m,u,y⟩:=b ⟨j,c,H⟩ f a A outer s H E p ds j R RE t hl;have z:=ao.length g;refine⟨_,u,j,c,_,_,⟨ra,⟨?_,λi d q=>?_⟩,ra.refl⟩,y,⟨λτ A' ι' σ H' q e r _=>l _ A' ι' H' _ q e r rfl,l,λ_ _ _ _ _ q _ _ _=>q.elim,λ_ _ _ _ _ q _ _ _=>q.elim⟩⟩
  .simp[j7,L2.start]
   omega
  .obtain⟨v,h1,h2⟩:=ao.get g (wM ds _ i d q)
   refine⟨v,?_,h2⟩;have hi:=(bP.mp h1).1;unfold L2.start;rw[gW (by simpa using hi),bM,h1];rfl
@[irreducible] def vM(r:Nat)(b:Bool)(A:Ar)(R:DK):Prop:=match A[r]? with
 |some (.lst xs)=>(match ia xs with
  |some bs=>R (.int (bs.countP (·==b):Nat)) A
  |none=>False)
 |_=>False
def EF:ja:=λx vs A R=>match x,vs with
 |.ref r,[.bl b]=>vM r b A R
 |_,_=>False
theorem Nq{mg:aA}{K:Frag}:kD mg K "list" IE EF:=by
 intro x ds A ι H u d R Q ra a rs h k;unfold EF at h;split at h
 .obtain⟨_,rfl⟩:=a
  obtain⟨v,_,rfl,rfl,rfl⟩:=rs;unfold vM at h;split at h
  .rename_i xs e
   obtain⟨ws,h1,b⟩:=ra.lst e;split at h
   .rename_i bs c
    cases sS c b;exact⟨_,bs,_,rfl,rfl,h1,k.here ra h rfl⟩
   .exact h.elim
  .exact h.elim
 .exact h.elim
@[irreducible] def wC(r:Nat)(b:Bool)(A:Ar)(R:DK):Prop:=match A[r]? with
 |some (.lst xs)=>(match ia xs with
  |some bs=>∃j:Nat,bs[j]?=some b/\(∀m c,m<j->bs[m]?=some c->c≠b)/\R (.int (j:Nat)) A
  |none=>False)
 |_=>False
def GP:ja:=λx vs A R=>match x,vs with
 |.ref r,[.bl b]=>wC r b A R
 |_,_=>False
theorem Ny{mg:aA}{K:Frag}:kD mg K "list" IJ GP:=by
 intro x ds A ι H u i R Q ra a rs h k;unfold GP at h;split at h
 .obtain⟨_,rfl⟩:=a
  obtain⟨v,_,rfl,rfl,rfl⟩:=rs;unfold wC at h;split at h
  .rename_i xs e
   obtain⟨ws,h1,b⟩:=ra.lst e;split at h
   .rename_i bs c
    cases sS c b;obtain⟨j,d,f,g⟩:=h;exact⟨_,bs,_,j,rfl,rfl,h1,d,f,k.here ra g rfl⟩
   .exact h.elim
  .exact h.elim
 .exact h.elim
theorem EH{A:Ar}{r:Nat}{xs:Bi}{bs:Fn}{b:Bool}{R:DK}(h:A[r]?=some (.lst xs))(a:ia xs=some bs)(k:R (.int (bs.countP (·==b):Nat)) A):vM r b A R:=by
 unfold vM;simp only[h,a];exact k
theorem GQ{A:Ar}{r:Nat}{xs:Bi}{bs:Fn}{b:Bool}{R:DK}(j:Nat)(h:A[r]?=some (.lst xs))(a:ia xs=some bs)(h1:bs[j]?=some b)(h2:∀m c,m<j->bs[m]?=some c->c≠b)(k:R (.int (j:Nat)) A):wC r b A R:=by
 unfold wC;simp only[h,a];exact⟨j,h1,h2,k⟩
theorem S7{A:Ar}{p:Nat}{xs:Bi}{R:DK}(h:A[p]?=some (.lst xs))(c:fP xs=true)(hl:canLayAll0 (bG xs)=true)(k:R (.bl (!decide (xs=[]))) (A++[.lst []])):fD true (.ref p) (.ref A.length) (A++[.lst []]) R:=by
 unfold fD;have b:cH (A++[.lst []]) (.ref p)=.list (bG xs):=by unfold cH;simp only[getElem?_push h]
 have a:cH (A++[.lst []]) (.ref A.length)=.list []:=by unfold cH;simp only[aI];rfl
 refine⟨?_,?_,?_,?_,?_,?_⟩
 .unfold iH;simp only[getElem?_push h];exact c
 .unfold iH;simp only[aI];rfl
 .rw[b];simpa[canLay0] using hl
 .rw[a];simp[canLay0,canLayAll0]
 .rw[a];simp[PyData.depth,depthAll];omega
 .rw[b,a]
  have e:PyData.eqv (.list (bG xs)) (.list [])=decide (xs=[]):=by cases xs<;>simp[bG,PyData.eqv,eqvAll]
  rw[aC rfl,e];exact k
theorem Gr.set{A B:Ar}{r:Nat}{c:C}(g:Gr A B)(h:A.length<=r):Gr A (B.set r c):=by
 obtain⟨T,rfl⟩:=g;exact⟨T.set (r - A.length) c,by rw[List.set_append_right _ _ h]⟩
theorem Wf.left{l r:Int}{a b:M}(h:Wf (.cz l r a b)):Wf a:=⟨h.arms.2.2.2.2.1,λn c=>h.nm n (by simp[bK.names,c])⟩
theorem Wf.right{l r:Int}{a b:M}(h:Wf (.cz l r a b)):Wf b:=⟨h.arms.2.2.2.2.2,λn c=>h.nm n (by simp[bK.names,c])⟩
theorem ao.of_get{mg:aA}{ι:Io}{H:Hp}{n:Nat}:∀{ds:Bi} {vs:Bn},ds.length=vs.length->(∀(i:Nat) d v,ds[i]?=some d->vs[i]?=some v->RV mg ι n H d v)->ao mg ι n H ds vs
 |[],[],_,_=>rfl
 |[],_::_,h,_=>by cases h
 |_::_,[],h,_=>by cases h
 |d::ds,v::vs,h,k=>⟨v,vs,rfl,k 0 d v rfl rfl,ao.of_get (by simpa using h) λi d v h1 h2=>k (i+1) d v (by simpa using h1) (by simpa using h2)⟩
theorem RA.F1{mg:aA}{A:Ar}{ι:Io}{H H':Hp}(R:RA mg ι H A)(g:jb H H'):Ext A ι H A ι H':=⟨aJ _,λ_ _=>rfl,R.im,λb u h _=>g b u h,λr h1 h2=>absurd h2 ω,λb u h=>⟨u,g b u h⟩⟩
@[irreducible] def uT(a b:Nat)(A:Ar)(R:DK):Prop:=match A[a]?,A[b]? with
 |some (.lst xs),some (.lst ys)=>R (.tup ((xs.zip ys).map λp=>.tup [p.1,p.2])) A
 |_,_=>False
def Nl(n:dg):aO:=λτ A R=>n τ A λvs A1=>match vs with
 |[.ref a,.ref b]=>uT a b A1 R
 |_=>False
theorem N2{X:Cx}{N:En}{a b:Expr}{n:dg}{P p2 g e:Pos}(u:X.mg "tuple"=none)(v:X.mg "zip"=none)(hc:X.calm=true)(T:PA X [a,b] (fG X.mg N n))(w:Gl X "tuple":=by rfl)(z:Gl X "zip":=by rfl)
  (U:starEach [a,b] X.env=[(false,eval a X.env),(false,eval b X.env)]:=by rfl)(B:starEach [b] X.env=[(false,eval b X.env)]:=by rfl)
  (hz:starEach [.Call (.Name "zip" p2) [a,b] [] e] X.env=[(false,eval (.Call (.Name "zip" p2) [a,b] [] e) X.env)]:=by rfl):
  PE X (.Call (.Name "tuple" P) [.Call (.Name "zip" p2) [a,b] [] e] [] g) (up X.mg N (Nl n)):=
 dR (UD w u nU z v η hc T U B hz) λσ H Q q=>by
  obtain⟨A,ι,τ,R,S,q,k⟩:=q
  refine⟨A,ι,τ,_,S,q,λvs K C H1 us f V r s=> ?_⟩
  match vs,f,s with
  |[.ref x,.ref y],f,s=>
   obtain⟨_,_,rfl,⟨_,rfl⟩,_,_,rfl,⟨_,rfl⟩,rfl⟩:=s
   have f:uT x y K R:=f
   unfold uT at f
   split at f
   .rename_i ds es W Y
    obtain⟨xs,h1,L⟩:=r.lst W
    obtain⟨ys,h2,M⟩:=r.lst Y
    refine⟨_,_,xs,ys,rfl,aU.of h1,aU.of h2,λl H' ps sm hl Z h j=> ?_⟩
    have E:=r.F1 sm
    refine k _ K C H' _ f (V.trans E) (r.fix E sm) ⟨l,ps,rfl,Z,ao.of_get ?_ λi d p hd D=> ?_⟩
    .rw[h,aQ,length_zip,ao.length L,ao.length M]
    .obtain⟨t,O,F,rfl,hx,hy,ht⟩:=j i p D
     rw[bM] at hd
     cases c:(ds.zip es)[i]? with
     |none=>rw[c] at hd;cases hd
     |some pr=>
      rw[c] at hd
      cases hd
      have G:ds[i]? =some pr.1:=by
       rw[rH] at c
       exact c.1
      have hd2:es[i]? =some pr.2:=by
       rw[rH] at c
       exact c.2
      obtain⟨s,m,I⟩:=ao.get L G
      obtain⟨v2,o,J⟩:=ao.get M hd2
      rw[hx] at m
      rw[hy] at o
      cases m
      cases o
      exact⟨t,[O,F],rfl,ht,O,[F],rfl,RV.ext E _ _ I,F,[],rfl,RV.ext E _ _ J,rfl⟩
   .exact f.elim
@[irreducible] def yo(r:Nat)(A:Ar)(R:DK):Prop:=match A[r]? with
 |some (.dct kvs)=>∃ns:Ap,kvs.map (·.1)=ns.map Sum.inr/\ns.Nodup/\ns.length<64/\∀ys:Ap,ys.Pairwise strLt->(∀x,x∈ys↔x∈ns)->R (.ref A.length) (A++[.lst (ys.map D.str)])
 |_=>False
def Ku:gX:=λvs A R=>match vs with
 |[.ref r]=>yo r A R
 |_=>False
theorem RK.keys{mg:aA}{ι:Io}{H:Hp}{n:Nat}:∀{ds:List (Key×D)} {vs:List (Key×V)},RK mg ι n H ds vs->vs.map (·.1)=ds.map (·.1)
 |[],vs,h=>by have h':vs=[]:=h;rw[h'];rfl
 |d::ds,vs,h=>by
  obtain⟨x,r,rfl,_,a⟩:=h;simp[RK.keys a]
theorem NP{mg:aA}:iz mg (λxs H Q=>∃(d:Addr) (kvs:List (Key×V)) (ns:Ap),xs=[.ref d]/\H d=some (.dK kvs)/\kvs.map (·.1)=ns.map Sum.inr/\ns.Nodup/\ns.length<64/\
  ∀(l:Addr) (ys:Ap),H l=none->ys.Pairwise strLt->(∀x,x∈ys↔x∈ns)->Q (.ref l) (ax H l (.lst (ys.map V.str)))) Ku:=by
 intro ds A ι H j R Q ra rs h k;unfold Ku at h;split at h
 .obtain⟨_,_,rfl,⟨_,rfl⟩,rfl⟩:=rs
  unfold yo at h;split at h
  .rename_i kvs e
   obtain⟨ns,h1,h2,a,b⟩:=h;obtain⟨xs,c,f⟩:=ra.dct e;exact⟨_,xs,ns,rfl,c,by rw[RK.keys f,h1],h2,a,λl ys hl g i=>jE k ra (ao.strs ys) (b ys g i) hl⟩
  .exact h.elim
 .exact h.elim
theorem WV{A:Ar}{r:Nat}{kvs:List (Key×D)}{ns:Ap}{R:DK}(h:A[r]?=some (.dct kvs))(b:kvs.map (·.1)=ns.map Sum.inr)(c:ns.Nodup)(a:ns.length<64)(k:∀ys:Ap,ys.Pairwise strLt->(∀x,x∈ys↔x∈ns)->R (.ref A.length) (A++[.lst (ys.map D.str)])):yo r A R:=by
 unfold yo;simp only[h];exact⟨ns,b,c,a,k⟩
theorem Ys{A:Ar}{a b:Nat}{xs ys:Bi}{R:DK}(h1:A[a]?=some (.lst xs))(h2:A[b]?=some (.lst ys))(k:R (.tup ((xs.zip ys).map λp=>.tup [p.1,p.2])) A):uT a b A R:=by
 unfold uT;simp only[h1,h2];exact k
noncomputable def hr2(w:Str)(x y:Int):List (Str×Str):=if y<x then [(w,"left")] else if x<y then [(w,"right")] else []
noncomputable def fW(f:Str->Int):M->Str->List (Str×Str)
 |.wt _,_=>[]
 |.cz l r a b,w=>hr2 w (l*ld f a) (r*ld f b)++fW f a (w++"l")++fW f b (w++"r")
theorem GK(w:Str)(x y:Int):(hr2 w x y).length<=1:=by
 unfold hr2;split
 .simp
 .split<;>simp
theorem yy(f:Str->Int):∀(m:M) (w:Str),(fW f m w).length+1<=2 ^ m.deep
 |.wt _,_=>by simp[fW,bK.deep]
 |.cz l r a b,w=>by
  show(hr2 w (l*ld f a) (r*ld f b)++fW f a (w++"l")++fW f b (w++"r")).length+1<=2 ^ (max a.deep b.deep+1);rw[dZ,dZ,Nat.pow_succ];have h1:=GK w (l*ld f a) (r*ld f b);have h2:=yy f a (w++"l");have c:=yy f b (w++"r");have d:2 ^ a.deep<=2 ^ max a.deep b.deep:=fK δ (rJ _ _);have e:2 ^ b.deep<=2 ^ max a.deep b.deep:=fK δ (rK _ _);omega
noncomputable def b6:M->Str->Rat->List (Str×Str×Rat)
 |.wt n,w,x=>[(w,n,x)]
 |.cz l r a b,w,x=>b6 a (w++("l":Str)) (x*((r:Rat)/((l+r:Int):Rat)))++b6 b (w++("r":Str)) (x*((l:Rat)/((l+r:Int):Rat)))
theorem pM:∀(m:M) (w:Str) (x:Rat),(b6 m w x).length=m.names.length
 |.wt _,_,_=>rfl
 |.cz _ _ a b,w,x=>by
  show List.length (_++_)=List.length (_++_);rw[dZ,dZ,pM a,pM b]
theorem pq{m:M}(h:m.deep<=5):m.names.length<=32:=
 dF (bK.kR m) (fK δ h:2 ^ m.deep<=2 ^ 5)
theorem ri{j k:Nat}(h:j<=k):(18:Int) ^ j<=18 ^ k:=by
 have:(18:Nat) ^ j<=18 ^ k:=fK δ h;exact_mod_cast this
theorem BW(k:Nat):(1:Int)<=18 ^ k:=by
 have:1<=(18:Nat) ^ k:=Nat.one_le_pow _ _ δ;exact_mod_cast this
theorem Fj{D a:Int}{j k:Nat}(h:D*18 ^ (max j k+1)<=1000000000)(hd:a<=D*18)(d:0<D):a*18 ^ j<=1000000000/\a*18 ^ k<=1000000000/\D<=1000000000:=by
 have e:D*18 ^ (max j k+1)=D*18*18 ^ max j k:=by rw[jn,nO (18 ^ max j k) 18,<-lC]
 rw[e] at h;have b:=ri (rJ j k);have p2:=ri (rK j k);have c:=BW (max j k);have f:=BW j;have g:=BW k;refine⟨eN (dH hd b ω ω) h,eN (dH hd p2 ω ω) h,?_⟩;have:D*1<=D*18*18 ^ max j k:=dH ω c ω ω;omega
theorem Sa{n:Nat}(h:n<2 ^ 2000):n.log2<9000:=by
 by_cases h0:n=0
 .rw[h0];decide+kernel
 .exact(log2_lt h0).mpr (cY h (fK δ δ))
theorem Em:∀(xs:Fs) (x:Rat) (b:Int),bot (xs++[x]) b=bot xs b*(rf x).2/(Int.gcd (bot xs b) (rf x).2:Int)
 |[],x,b=>rfl
 |y::r,x,b=>by
  show bot (r++[x]) _=_;rw[Em r x];rfl
theorem Gu:∀(ns:DD) (n d:Int),eY (ns++[n]) d=(Int.gcd (eY ns d) n:Int)
 |[],n,d=>rfl
 |m::r,n,d=>by
  show eY (r++[n]) _=_;rw[Gu r n];rfl
structure zg(x:Rat):Prop where
 pos:0<x
 num:(rf x).1<=2000000
 den:(rf x).2<=2000000
theorem pJ{c a b:Nat}(hc:0<c)(h:a<=b):(c:Int) ^ a<=(c:Int) ^ b:=by
 rw[<-u0,<-u0];exact Int.ofNat_le.mpr (fK hc h)
theorem S5{n:Int}{c k:Nat}(h0:0<n)(h:n<=(c:Int) ^ k):n.natAbs<=c ^ k:=by
 have:(n.natAbs:Int)<=(c:Int) ^ k:=ω
 rw[<-u0] at this;exact Int.ofNat_le.mp this
def Cons{W N S:Type}(l:List (W×N×S)):Prop:=∀a∈l,∀b∈l,a.2.1=b.2.1->a.2.2=b.2.2
theorem found{W N S:Type}[DecidableEq N]{l:List (W×N×S)}{n:N}{p:W×N×S}(h:l.find? (λp=>decide (p.2.1=n))=some p):p.2.1=n:=by
 have:=qd h;simpa using this
theorem zT{W N S:Type}[DecidableEq N][DecidableEq S]:∀(r pre:List (W×N×S)),fC pre r=none->Cons pre->Cons (pre++r)
 |[],pre,_,h=>by rw[ko];exact h
 |(g,n,s)::r,pre,l,h=>by
  have e:pre++(g,n,s)::r=(pre++[(g,n,s)])++r:=θ
  rw[e];cases j:pre.find? (λp=>decide (p.2.1=n)) with
  |none=>
   have i:fC (pre++[(g,n,s)]) r=none:=by
    have:=l;unfold fC at this;rw[j] at this;exact this
   refine zT r _ i λa ha b hbm d=>?_;have no:∀c∈pre,c.2.1≠n:=λc hc z=>by
    have:=qc.mp j c hc;exact this (dc z)
   rcases cu.mp ha with ha|ha<;>rcases cu.mp hbm with hbm|hbm
   .exact h a ha b hbm d
   .rw[bS.mp hbm] at d
    exact absurd d (no a ha)
   .rw[bS.mp ha] at d
    exact absurd d.symm (no b hbm)
   .rw[bS.mp ha,bS.mp hbm]
  |some p=>
   have f:=l;unfold fC at f;rw[j] at f;by_cases es:p.2.2=s
   .have i:fC (pre++[(g,n,s)]) r=none:=by
     have:(if p.2.2=s then fC (pre++[(g,n,s)]) r else some (p.1,g))=none:=f;rwa [aC es] at this
    have m:=jJ j;have k:p.2.1=n:=found j;refine zT r _ i λa ha b hbm d=>?_;have to:∀c∈pre,c.2.1=n->c.2.2=s:=λc hc z=>by rw[h c hc p m (by rw[z,k]),es]
    rcases cu.mp ha with ha|ha<;>rcases cu.mp hbm with hbm|hbm
    .exact h a ha b hbm d
    .rw[bS.mp hbm] at d ⊢
     exact to a ha d
    .rw[bS.mp ha] at d ⊢
     exact(to b hbm d.symm).symm
    .rw[bS.mp ha,bS.mp hbm]
   .have:(if p.2.2=s then fC (pre++[(g,n,s)]) r else some (p.1,g))=none:=f
    rw[ay es] at this;cases this
theorem EJ{W N S:Type}[DecidableEq N][DecidableEq S]:∀(r pre:List (W×N×S)),Cons (pre++r)->fC pre r=none
 |[],pre,_=>by unfold fC;rfl
 |(a,n,s)::r,pre,h=>by
  have e:pre++(a,n,s)::r=(pre++[(a,n,s)])++r:=θ
  have c:=EJ r (pre++[(a,n,s)]) (by rw[<-e];exact h);unfold fC;cases d:pre.find? (λp=>decide (p.2.1=n)) with
  |none=>exact c
  |some p=>
   have f:=jJ d;have b:p.2.1=n:=found d;have es:p.2.2=s:=h p (mK _ f) (a,n,s) θ b;show(if p.2.2=s then _ else _)=none;rw[aC es];exact c
theorem pN:∀(m:M) (w:Str) (x:Rat),(b6 m w x).map (·.2.1)=m.names
 |.wt _,_,_=>rfl
 |.cz _ _ a b,w,x=>by
  show((b6 a _ _++b6 b _ _).map (·.2.1))=a.names++b.names;rw[di,pN a,pN b]
theorem uL:∀(m:M) (w:Str) (x:Rat),(b6 m w x).map (·.2.2)=m.sh x
 |.wt _,_,_=>rfl
 |.cz _ _ a b,w,x=>by
  show((b6 a _ _++b6 b _ _).map (·.2.2))=a.sh _++b.sh _;rw[di,uL a,uL b]
noncomputable def shr(m:M):Str->Rat:=λx=>match (b6 m "" 1).find? (λp=>decide (p.2.1=x)) with|some p=>p.2.2|none=>0
theorem yr{m:M}(h:fC [] (b6 m "" 1)=none):(∀a∈b6 m "" 1,a.2.2=shr m a.2.1)/\m.names.map (shr m)=m.sh 1:=by
 have hc:=zT (b6 m "" 1) [] h (by intro a b;simp at b);rw[d_] at hc;have key:∀a∈b6 m "" 1,a.2.2=shr m a.2.1:=λa b=>by
  show _=(match (b6 m "" 1).find? (λp=>decide (p.2.1=a.2.1)) with|some p=>p.2.2|none=>0);cases c:(b6 m "" 1).find? (λp=>decide (p.2.1=a.2.1)) with
  |none=>exact absurd (dc rfl) (qc.mp c a b)
  |some p=>exact(hc p (jJ c) a b (found c)).symm
 refine⟨key,?_⟩;rw[<-pN m "" 1,<-uL m "" 1,bH];exact rN λa b=>(key a b).symm
theorem num_mul{t:Rat}{a b:Int}(c:0<b)(d:0<=(rf t).1*a):(rf (t*((a:Rat)/(b:Rat)))).1<=(rf t).1*a:=by
 rw[<-B_,<-yk (cT (ck t) c)];exact r_ _ d
theorem Cf:∀(m:M) (x:Rat) (B:Int),m.arms->0<x->(rf x).1<=B->∀s∈m.sh x,(rf s).1<=B*18 ^ m.deep
 |.wt _,x,B,_,h1,h2,s,hs=>by
  have:s=x:=by simpa[bK.sh] using hs
  subst this;simpa[bK.deep] using h2
 |.cz l r a b,x,B,h,h1,h2,s,hs=>by
  obtain⟨c,p,d,q,e,f⟩:=h;have g:0<B:=rZ (cW h1) h2;have np:=cW h1;have i:(rf (x*((r:Rat)/((l+r:Int):Rat)))).1<=B*18:=by
   refine eN (num_mul ω (rQ ω ω)) ?_;exact dH h2 ω ω ω
  have j:(rf (x*((l:Rat)/((l+r:Int):Rat)))).1<=B*18:=by
   refine eN (num_mul ω (rQ ω ω)) ?_;exact dH h2 ω ω ω
  have n:0<x*((r:Rat)/((l+r:Int):Rat)):=bK.step_pos c d h1;have p2:0<x*((l:Rat)/((l+r:Int):Rat)):=by
   have:=bK.step_pos (l:=r) (r:=l) d c h1;rwa [add_comm r l] at this
  have up:∀k:Nat,k<=max a.deep b.deep->B*18*18 ^ k<=B*18 ^ (max a.deep b.deep+1):=λk o=>by
   rw[jn,lC,nO 18 (18 ^ k)];refine pY ?_ (dO g);exact y_ (ri o) δ
  rcases cu.mp (show s∈a.sh _++b.sh _ from hs) with hs|hs
  .exact eN (Cf a _ _ e n i s hs) (up _ (rJ _ _))
  .exact eN (Cf b _ _ f p2 j s hs) (up _ (rK _ _))
theorem WY{m:M}(a:m.arms)(f:m.deep<=5):∀s∈m.sh 1,0<s/\(rf s).1<=1889568/\(rf s).2<=1889568:=λs b=>by
 obtain⟨g,c⟩:=bK.yq m 1 1 a δ δ s b;have d:=Cf m 1 1 a δ δ s b;have p:=ri f;have e:(18:Int) ^ 5=1889568:=δ
 rw[e] at p;rw[one_mul] at c d;exact⟨g,eN d p,eN c p⟩
theorem Kv{m:M}(a:m.arms)(b:m.deep<=5)(h:fC [] (b6 m "" 1)=none){x:Str}(c:x∈m.names):zg (shr m x):=by
 have:shr m x∈m.sh 1:=by
  rw[<-(yr h).2];exact aS.mpr ⟨x,c,rfl⟩
 obtain⟨h1,h2,d⟩:=WY a b _ this;exact⟨h1,ω,ω⟩
theorem eF{a:Ar->Prop}{g:jO}{b:cK}{R:mS}(J:Bi->bQ->Ar->Prop)(hc:∀rest τ A,J rest τ A->a A)
  (e:∀x rest τ A,J (x::rest) τ A->∀c:bQ->Ar->Prop,(∀bX A',J rest bX A'->c bX A')->g x τ A λd h=>b {R with nx:=c,ct:=c,bk:=R.nx} d h)(f:∀τ A,J [] τ A->R.nx τ A):∀(items:Bi) (τ:bQ) (A:Ar),J items τ A->oE a g b R items τ A
 |[],τ,A,j=>⟨hc _ _ _ j,f _ _ j⟩
 |x::rest,τ,A,j=>⟨hc _ _ _ j,e _ _ _ _ j _ λbX A' i=>eF J hc e f rest bX A' i⟩
theorem Ez{k:Option Nat}{fr:bQ}{te:aO}{a:Ar->Prop}{R:Bi->Ar->Prop}(J:Bi->Bi->Ar->Prop)(hc:∀rest ys A,J rest ys A->a A)(hl:∀rest ys A,J rest ys A->ys.length<=sizeLine)
  (c:∀x rest ys A,J (x::rest) ys A->∃vs,rE k x=some vs/\∀Q:DK,(∀y b,J rest (ys++[y]) b->Q y b)->te (vs.map some++fr) A Q)(d:∀ys A,J [] ys A->R ys A):∀items ys A,J items ys A->lV a k fr iu te R items ys A
 |[],ys,A,j=>⟨hc _ _ _ j,d _ _ j⟩
 |x::rest,ys,A,j=>by
  obtain⟨vs,f,q⟩:=c _ _ _ _ j;refine⟨hc _ _ _ j,?_⟩;rw[f];refine q _ λy b e=>⟨?_,Ez J hc hl c d rest _ _ e⟩;have:=hl _ _ _ e;simp at this;omega
theorem Gr.HR{A d A':Ar}{t:Nat}(g:Gr A d)(e:A.length<=t)(b:eO t d A'):Gr A A':=by
 have key:∀q c,A[q]?=some c->A'[q]?=some c:=λq c h=>b q c (by have:=dB h;omega) (g.get h);refine⟨A'.drop A.length,sf λq=>?_⟩;by_cases a:q<A.length
 .rw[gW a,a_ a]
  exact key q _ (a_ a)
 .rw[qf ω,List.getElem?_drop]
  congr 1;omega
open PySem.SeqAt
def qg(op:CmpOp)(A:Around)(s:Shared)(y x:Value)(b:Bool):Prop:=∀(prog:Program) (w:World) (E:aR) (Q:aR),Q (.bool b) s->wpAny (model prog w) A (richCompare op y x) Q E s
inductive jQ(op:CmpOp)(A:Around)(s:Shared)(fin b:Bool):List (Value×Value)->Prop
 |nil:fin=b->jQ op A s fin b []
 |eq {y x:Value} {r:List (Value×Value)}:EqAt A s y x true->jQ op A s fin b r->jQ op A s fin b ((y,x)::r)
 |ne {y x:Value} {r:List (Value×Value)}:EqAt A s y x false->qg op A s y x b->jQ op A s fin b ((y,x)::r)
open MeetsSeq MeetsSeq2 MeetsSeq3 SeqRoads2
theorem Yd(l b:Addr)(items a:Array Value)(n n2:Nat)(dd f:Option Addr)(m i:Array (Option Value))(res:Bool):
  Meets (Builtin.«tuple.__lt__» ⟨[.ref l,.ref b],[]⟩)
   (λA R s=>s.heap.get? l=some {cls:=.type "tuple",dict:=dd,data:=.seq items n,slots:=m}/\s.heap.get? b=some {cls:=.type "tuple",dict:=f,data:=.seq a n2,slots:=i}/\
    jQ .Lt A.in1 s (decide (items.size<a.size)) res (items.toList.zip a.toList)/\R (.ok (.ret (.bool res))) s):=
 .of_wp λprog w A R s h=>by
  obtain⟨k,g,d,tk,os⟩:=s;obtain⟨hl,o,p,h⟩:=h;have f2:=CS;wp_walk using rT hl,rT o,wpAny_forIn_list _ (λrest b s'=>b.1=none/\s'=⟨k,g,d,tk,os⟩/\jQ .Lt A.in1 ⟨k,g,d,tk,os⟩ (decide (items.size<a.size)) res rest) _;case turn=>
   rintro ⟨y,x⟩ rest b s' ⟨c,rfl,j⟩;cases j with
   |eq h1 h2=>
    refine ah (h1 prog w _ _ ?_);wp_walk;exact⟨rfl,rfl,h2⟩
   |ne h1 h2=>
    refine ah (h1 prog w _ _ ?_);simp only[Bool.not_false,ly];refine ah (kj ?_);refine ah (h2 prog w _ _ ?_);wp_walk;exact⟨_,rfl,h⟩
  case fin=>
   rintro ⟨q,r⟩ s' ⟨c,rfl,j⟩;simp only at c;subst c;cases j with
   |nil e=>
    wp_walk;exact⟨_,rfl,by rw[<-e] at h;simpa[Builtin.Tuple.tupleCompareSizes] using h⟩
  case h=>
   exact⟨rfl,rfl,p⟩
mutual
def ltQ:PyData->PyData->Option Bool
 |.int i,.int j=>some (decide (i<j))
 |.str x,.str y=>some (decide (x.cps.toList<y.cps.toList))
 |.tuple xs,.tuple ys=>gx xs ys
 |_,_=>none
def gx:Fm->Fm->Option Bool
 |[],[]=>some false
 |[],_::_=>some true
 |_::_,[]=>some false
 |x::xs,y::ys=>match PyData.eqv x y with
  |true=>gx xs ys
  |false=>ltQ x y
end
theorem MN(i j:Int)(A:Around)(s:Shared)(a b:Value)(as bs:D1)(r:Bool)(e:ltQ (.int i) (.int j)=some r)(ra:Reads s.heap a (.int i) as)(c:Reads s.heap b (.int j) bs):qg .Lt A s a b r:=by
 cases ra;cases c;rw[ltQ] at e;cases e;intro prog w E Q q;exact lt_int q
theorem MO(xs ys:Fm)(A:Around)(s:Shared)(a b:Value)(as bs:D1)(r:Bool)(i:A.units+min (PyData.tuple xs).depth (PyData.tuple ys).depth<cLine)(L:∀d vs as bs,ReadsAll s.heap d xs as->ReadsAll s.heap vs ys bs->A.in1.units+min (depthAll xs) (depthAll ys)<cLine->jQ .Lt A.in1 s (decide (d.length<vs.length)) r (d.zip vs))(ra:Reads s.heap a (.tuple xs) as)(m:Reads s.heap b (.tuple ys) bs):qg .Lt A s a b r:=by
 cases ra with
 | @tuple l o vs n _ e h1 h2 j p=>
  cases m with
  | @tuple t o' c n' _ f k1 k2 k3 u=>
   obtain⟨cls,dd,data,v⟩:=o;obtain⟨k,g,data2,h⟩:=o';simp only at h2 j k2 k3;subst h2 j k2 k3;have L:=L vs.toList c.toList _ _ p u (room_in i);intro prog w E Q q;exact richCompare_meets_room (op:=.Lt) ⟨_,h1,rfl⟩ ⟨_,k1,rfl⟩ F.slot_tuple_lt F.entry_tuple_lt (F.args_tuple_lt_2 _ _) (Yd l t vs c n n' dd g v h r)
    ⟨h1,k1,by simpa using L,show Value.bool r≠Value.notImplemented/\Q (.bool r) s from⟨(λx=>nomatch x),q⟩⟩ (room_here i)
theorem MQ(i j:Str)(A:Around)(s:Shared)(a b:Value)(as bs:D1)(r:Bool)(e:ltQ (.str i) (.str j)=some r)(ra:Reads s.heap a (.str i) as)(c:Reads s.heap b (.str j) bs):qg .Lt A s a b r:=by
 cases ra;cases c;rw[ltQ] at e;cases e;intro prog w E Q q;exact lt_str q
theorem Hj{α β:Type}{a:α}{b:β}{u:List α}{v:List β}:decide ((a::u).length<(b::v).length)=decide (u.length<v.length):=θ
theorem MP(x y:PyData)(xs ys:Fm)(A:Around)(s:Shared)(a vs:BM)(as bs:D1)(r:Bool)(e:gx (x::xs) (y::ys)=some r)(ra:ReadsAll s.heap a (x::xs) as)(i:ReadsAll s.heap vs (y::ys) bs)(j:canLayAll0 (x::xs)=true)(k:canLayAll0 (y::ys)=true)
 (g:A.units+min (depthAll (x::xs)) (depthAll (y::ys))<cLine)
 (l:∀a vs as bs,gx xs ys=some r->ReadsAll s.heap a xs as->ReadsAll s.heap vs ys bs->canLayAll0 xs=true->canLayAll0 ys=true->A.units+min (depthAll xs) (depthAll ys)<cLine->jQ .Lt A s (decide (a.length<vs.length)) r (a.zip vs))
 (L2:∀u v as bs,ltQ x y=some r->Reads s.heap u x as->Reads s.heap v y bs->x.canLay0=true->y.canLay0=true->A.units+min x.depth y.depth<cLine->qg .Lt A s u v r):jQ .Lt A s (decide (a.length<vs.length)) r (a.zip vs):=by
  have b:x.canLay0=true/\canLayAll0 xs=true:=by simpa[canLayAll0] using j
  have d:y.canLay0=true/\canLayAll0 ys=true:=by simpa[canLayAll0] using k
  cases ra with
  |cons a1 a2=>
   cases i with
   |cons h m=>
    have f:=eqAt_reads x y A s _ _ _ _ a1 h b.1 d.1 (room_head g)
    rw[gx] at e
    cases c:PyData.eqv x y with
    |true=>
     rw[c] at e f
     have L:=l _ _ _ _ e a2 m b.2 d.2 (room_tail g)
     rw[Hj]
     exact .eq f L
    |false=>
     rw[c] at e f
     exact .ne f (L2 _ _ _ _ e a1 h b.1 d.1 (room_head g))
mutual
theorem MR:∀(d db:PyData) (A:Around) (s:Shared) (a b:Value) (as bs:D1) (r:Bool),ltQ d db=some r->Reads s.heap a d as->Reads s.heap b db bs->d.canLay0=true->db.canLay0=true->
  A.units+min d.depth db.depth<cLine->qg .Lt A s a b r
 |.none,db,A,s,_,_,_,_,r,e,ra,c,_,_,_=>by simp[ltQ] at e
 |.bool _,db,A,s,_,_,_,_,r,e,ra,c,_,_,_=>by simp[ltQ] at e
 |.list _,db,A,s,_,_,_,_,r,e,ra,c,_,_,_=>by simp[ltQ] at e
 |.dict _,db,A,s,_,_,_,_,r,e,ra,c,_,_,_=>by simp[ltQ] at e
 |.int i,db,A,s,_,_,_,_,r,e,ra,c,_,_,_=>by
  cases db with
  |int j=>exact MN i j A s _ _ _ _ r e ra c
  |_=>simp[ltQ] at e
 |.str i,db,A,s,_,_,_,_,r,e,ra,c,_,_,_=>by
  cases db with
  |str j=>exact MQ i j A s _ _ _ _ r e ra c
  |_=>simp[ltQ] at e
 |.tuple xs,db,A,s,_,_,_,_,r,e,ra,c,f,g,h=>by
  cases db with
  |tuple ys=>exact MO xs ys A s _ _ _ _ r h (λk vs as bs h1 h2 l=>Br xs ys A.in1 s k vs as bs r (by rw[ltQ] at e;exact e) h1 h2 f g l) ra c
  |_=>simp[ltQ] at e
theorem Br:∀(xs ys:Fm) (A:Around) (s:Shared) (a vs:BM) (as bs:D1) (r:Bool),gx xs ys=some r->ReadsAll s.heap a xs as->ReadsAll s.heap vs ys bs->canLayAll0 xs=true->canLayAll0 ys=true->
  A.units+min (depthAll xs) (depthAll ys)<cLine->jQ .Lt A s (decide (a.length<vs.length)) r (a.zip vs)
 |[],ys,A,s,_,_,_,_,r,e,ra,b,_,_,_=>by
  cases ys with
  |nil=>cases ra;cases b;rw[gx] at e;cases e;exact .nil θ
  |cons y ys=>cases ra;cases b;rw[gx] at e;cases e;exact .nil θ
 |x::xs,ys,A,s,a,vs,as,bs,r,e,ra,b,h,i,j=>by
  cases ys with
  |nil=>cases ra;cases b;rw[gx] at e;cases e;exact .nil θ
  |cons y ys=>exact MP x y xs ys A s a vs as bs r e ra b h i j (λa vs as bs h1 h2 c d f g=>Br xs ys A s a vs as bs r h1 h2 c d f g) (λu v as bs h1 h2 c d f g=>MR x y A s u v as bs r h1 h2 c d f g)
end
end L2
namespace HT
section
variable{prog:Program}{w:World}{A:Around}{E:aR}{s:Shared}
theorem Qf{t c:Addr}{items:Array Value}{g i:Value}{lo hi:Option Int}{Q:aR}(a:IsTup s.heap t items)(j:s.heap.IsSliceOf c g i .none)(pl:IsPart g lo)(pu:IsPart i hi)
  (k:aZ items.size 0 lo=0/\aZ items.size items.size hi=items.size)(h:Q (.ref t) s):wpAny (model prog w) A (getItem (.ref t) (.ref c)) Q E s:=by
 obtain⟨os,d,e,l⟩:=id j;have f:s.TypeIs (.ref c) "slice":=⟨os,d,e⟩;unfold getItem;try with_reducible refine gn ?_
 first|refine ah (aF ?_)|skip
 refine ah (wpAny_sequenceKey a.typeIs δ ?_);refine ah (nM (name:=Str.ofString "__getitem__") a.typeIs rG
  (jo rG a.typeIs entry_tuple_getitem ?_ (args_tuple_getitem _ _)))
 show wpAny _ _ (Builtin.Tuple.tupleItemsOf (.ref t)>>=_) _ _ s;refine ah (tupleItemsOf_ a ?_);refine ah (lI f ?_);rw[aC δ];refine ah (Kz j pl pu ?_);have b:(((aZ items.size 0 lo:Nat):Int)==0&&(1:Int)==1&&(aZ items.size items.size hi - aZ items.size 0 lo)==items.size)=true:=by
  rw[k.1,k.2];simp
 show wpAny _ _ (if (((aZ items.size 0 lo:Nat):Int)==0&&(1:Int)==1&&(aZ items.size items.size hi - aZ items.size 0 lo)==items.size)=true then _ else _) _ _ s;rw[aC b];unfold Builtin.Tuple.tupleIsExact;refine ah (ah (lI a.typeIs (aF ?_)));rw[aC δ];refine ah (kj ?_);first
  |exact aF ⟨_,rfl,aF h⟩
  |exact ah (aF (aF ⟨_,rfl,aF h⟩))
  |exact ah (aF ⟨_,rfl,aF h⟩)
end
end HT
namespace L2
variable{X:Cx}
noncomputable def Vu(K:Frag):V->Option Int->Option Int->Hp->VK->Prop:=λx lo hi H Q=>∃a xs,x=.ref a/\bL K H a xs/\(HT.aZ xs.length 0 lo=0/\HT.aZ xs.length xs.length hi=xs.length)/\Q (.ref a) H
theorem W3:mV X (Vu X.K):=by
 intro ae s σ H x v i j lo hi k Q I d e pl pu h;obtain⟨a,xs,rfl,f,g,q⟩:=h;cases d;obtain⟨its,r,c,hz⟩:=I.tuple f;have b:its.toArray.size=xs.length:=by rw[bT];exact r.length.symm
 refine⟨"tuple",_,rG.lookup,c.typeIs,?_⟩;exact HT.Qf c e pl pu (by rw[b];exact g) ⟨.ref a,H,I,rfl,q⟩
def W0(x:D)(lo hi:Option Int)(A:Ar)(R:DK):Prop:=match x with
 |.tup xs=>R (.tup (cutD xs lo hi)) A
 |_=>False
def Ag(m:aO)(l u:n_):aO:=λτ A R=>m τ A λx A1=>l τ A1 λlo A2=>u τ A2 λhi A3=>W0 x lo hi A3 R
theorem M8{xs:Bi}{lo hi:Option Int}(h:HT.aZ xs.length 0 lo=0/\HT.aZ xs.length xs.length hi=xs.length):cutD xs lo hi=xs:=by
 unfold cutD;rw[h.1,h.2];simp
variable{N:En}
section
variable{pos p2:Pos}{e:Expr}{lo hi:Option Expr}{m:aO}{l u:n_}
theorem Fc(t:PE X e (up X.mg N m))(hl:PO X lo (rF X.mg N l))(w:PO X hi (rF X.mg N u)):PE X (.Subscript e (.Slice lo hi none p2) pos) (up X.mg N (Ag m l u)):=
 dR (Ii (Ky.or W3) t hl w) λσ H Q q=>by
  obtain⟨A,ι,τ,R,S,q,k⟩:=q;refine⟨A,ι,τ,_,S,q,λx y d H1 v z f j B=>?_⟩;refine⟨y,d,τ,_,S.next f j,z,λn C g H2 D h E=>?_⟩;refine⟨C,g,τ,_,(S.next f j).next h E,D,λo F G K b r s=>?_⟩;have c:=(f.trans h).trans r;have I:=RV.ext (h.trans r) x v B;cases x with
  |tup ds=>
   have b:R (.tup (cutD ds n o)) F:=b;obtain⟨a,xs,rfl,h1,h2⟩:=I;by_cases i:HT.aZ ds.length 0 n=0/\HT.aZ ds.length ds.length o=ds.length
   .rw[M8 i] at b
    exact .inr ⟨a,xs,rfl,bL.of h1,by rw[<-ao.length h2];exact i,(k.from c).here s b ⟨a,xs,rfl,h1,h2⟩⟩
   .exact .inl ⟨a,xs,rfl,bL.of h1,by rw[<-ao.length h2];exact i,λp J=>qV (k.from c) s (h2.cut _ _) b J⟩
  |_=>exact b.elim
end
section
variable{ae:bh}{σ:St}{H:Hp}{s:Shared}{d:Addr}{kvs:List (Key×V)}
theorem Inv.swap{u g:HO}(I:Inv X ae σ H s)(hd:H d=some u)(j:∀xs,u≠ .tup xs)(k:∀ps,u≠ .jl ps)(l:∀a,u≠ .own a)(m:∀o v,X.H₀ d=some (.bZ o v)->False)(q:cg X.prog X.w H s.heap d g):Inv X ae σ (ax H d g) s:=by
 have nn:∀b,H b=none->ax H d g b=none:=λb h=>by
  rw[aX (λz=>by rw[z,hd] at h;cases h)];exact h
 have st:∀(a:Addr) (o:HO),cg X.prog X.w H s.heap a o->cg X.prog X.w (ax H d g) s.heap a o:=λa o x=>
  x.stay (λb v _ e=>e) (λb h=>by rw[aX (λz=>by rw[z,hd] at h;exact l a (Option.some.inj h))];exact h) λb xs h=>by rw[aX (λz=>by rw[z,hd] at h;exact j xs (Option.some.inj h))];exact h
 refine⟨I.ok,I.os,I.bare,⟨I.base.keep,I.base.slot,λb o e n r=>nn b (I.base.free b o e n r),I.base.there,λb xs h=>?_,λb o v h=>?_,λb ps h=>?_⟩,I.loc,I.cell,nn _ I.free,λx c e=>nn _ (I.gv x c e),λp i=>?_,λa o h=>?_,I.len⟩
 .have h':=I.base.tups b xs h
  rw[aX (λz=>by rw[z,hd] at h';exact j xs (Option.some.inj h'))];exact h'
 .have h':=I.base.fM b o v h
  rw[aX (λz=>by rw[z] at h;exact m o v h)];exact h'
 .obtain⟨f,h'⟩:=I.base.gk b ps h
  exact⟨f,by rw[aX (λz=>by rw[z,hd] at h';exact k _ (Option.some.inj h'))];exact h'⟩
 .obtain⟨h1,h2,t⟩:=I.pin p i
  exact⟨h1,nn _ h2,t⟩
 .by_cases z:a=d
  .subst z
   rw[d9] at h;cases h;exact st _ _ q
  .rw[aX z] at h
   exact st _ _ (I.ar a o h)
theorem Inv.fz(I:Inv X ae σ H s)(hd:H d=some (.dK kvs)):(∀o v,X.H₀ d=some (.bZ o v)->False)/\∃o,Inv X ae σ (ax H d (.bZ o (.dK kvs))) s:=by
 have a:∀o v,X.H₀ d=some (.bZ o v)->False:=λo v h=>by
  have:=I.base.fM d o v h;rw[hd] at this;cases this
 have b:=I.ar d _ hd;obtain⟨h1,h2,vs,f,c⟩:=id b;obtain⟨o,es,ep,e,r⟩:=id c;exact⟨a,o,I.swap hd (λ_ z=>by cases z) (λ_ z=>by cases z) (λ_ z=>by cases z) a ⟨e,b⟩⟩
theorem Inv.Lb{o:Obj}(I:Inv X ae σ H s)(hd:H d=some (.bZ o (.dK kvs)))(a:∀o v,X.H₀ d=some (.bZ o v)->False):Inv X ae σ (ax H d (.dK kvs)) s:=
 I.swap hd (λ_ z=>by cases z) (λ_ z=>by cases z) (λ_ z=>by cases z) a (I.ar d _ hd).2
end
noncomputable def zq(a:Addr)(o:Obj)(ks:Ee):It:=
 ⟨λi H=>∃kvs,H a=some (.bZ o (.dK kvs))/\kvs.map (·.1)=ks/\i<ks.length,λi H x H'=>H'=H/\∃k,ks[i]?=some k/\x=kV k,λi H=>∃kvs,H a=some (.bZ o (.dK kvs))/\kvs.map (·.1)=ks/\ks.length<=i⟩
theorem Vx{k:Key}{v:Value}(h:kK k v=true):RelV (kV k) v:=by
 rcases jh h with⟨i,t,rfl,rfl⟩|⟨x,t,rfl,rfl⟩
 .exact⟨t,rfl⟩
 .exact⟨t,rfl⟩
theorem AI{X:Cx}{ae:bh}{σ:St}{H:Hp}{s:Shared}{a:Addr}{o:Obj}{kvs:List (Key×V)}{es:Array DictEntry}{ep:Nat}(I:Inv X ae σ H s)(h:H a=some (.bZ o (.dK kvs)))(b:o.data=.dict es ep):(a==sysModules)=false/\∃vs:List (Key×Value),vs.map (·.1)=kvs.map (·.1)/\s.heap.DictAt (dD X.prog X.w) a vs ep:=by
 obtain⟨e,hz,h2,vs,c,f⟩:=(show cg X.prog X.w H s.heap a (.bZ o (.dK kvs)) from I.ar a _ h);obtain⟨o',g,i,d,hc,hd,r⟩:=f;rw[e] at d;cases d;rw[b] at hd;cases hd;refine⟨h2,vs,?_,⟨o,es,e,hc,b,r⟩⟩;clear r h2 h e hz;unfold KV at c;induction c with
 |nil=>rfl
 |cons p t j=>rw[cJ,cJ,j,p.1]
theorem Yi{P:Program}{w:World}{K:Frag}{tg:Expr}(a it:Addr){o:Obj}{ks:Ee}{es:Array DictEntry}{ep:Nat}(A:o.data= .dict es ep):Turn P w K tg (zq a o ks) [it] it (λi h=>h.IsKeyIter it a i ks.length ep) where
 mem:=θ
 obj:=λi h st b f=>by
  have e:b=it:=by simpa using f
  subst e
  obtain⟨o,e,c,d⟩:=st
  exact⟨o,e,λv z=>by rw[d] at z;cases z⟩
 keep:=λi h h' st k=>st.at λo e=>k it θ o e
 item:=by
  intro X p q r hc i ae s σ H E I m st t
  subst p q r
  obtain⟨kvs,h1,h2,C⟩:=t
  obtain⟨D,vs,n,g⟩:=AI I h1 A
  have hl:vs.length=ks.length:=by rw[<-h2,<-n,aQ]
  obtain⟨f0,f1,f2,u,f4,x⟩:=m it θ
  obtain⟨y,B⟩:∃y,vs[i]? =some y:=⟨vs[i]' ω,a_ _⟩
  have F:ks[i]? =some y.1:=by rw[<-h2,<-n,bM,B];rfl
  rw[<-hl] at st
  refine wpAny_pyNext_dict_item (knd:=dD X.prog X.w) st g B λkey h' l j G=> ?_
  have J:Inv X ae σ H {s with heap:=h'}:=I.turned (t':=s.toks) (λb o f e=>(G.2 b f).trans e) f0 f1 u f4 x
  obtain⟨o',e,c,d⟩:=id j
  rw[hl] at j
  exact⟨key,rfl,tH (s:={s with heap:=h'}) e c d δ ⟨_,H,J,Vx l,⟨rfl,_,F,rfl⟩,j,λb f=>(m b f).1⟩⟩
 done:=by
  intro X p q r hc i ae s σ H E I m st t
  subst p q r
  obtain⟨kvs,h1,h2,C⟩:=t
  obtain⟨D,vs,n,g⟩:=AI I h1 A
  have hl:vs.length=ks.length:=by rw[<-h2,<-n,aQ]
  obtain⟨f0,f1,f2,u,f4,x⟩:=m it θ
  rw[<-hl] at st
  exact wpAny_pyNext_dict_end (knd:=dD X.prog X.w) (I.ok.hd hc) st g (nZ ω) λh' L=>⟨rfl,I.turned (t':=s.toks) (λb o f e=>L b o f e) f0 f1 u f4 x⟩
 self:=λ_ _ _ _ _ st h=>wpAny_pyIter_keyiter st h
noncomputable def QZ(tl:TE):TI:=λσ H R=>tl σ H λx H1=>∃a o kvs,x=.ref a/\H1 a=some (.bZ o (.dK kvs))/\R (zq a o (kvs.map (·.1))) H1
theorem UK{X:Cx}{tg l:Expr}{tl:TE}(hl:PE X l tl):PI X tg l (QZ tl):=by
 intro ae s σ H R I h;refine aN (hl ae s σ H _ I h) λv c ⟨x,H1,d,j,k⟩=>?_;obtain⟨a,o,kvs,e,g,q⟩:=k;subst e;cases j;obtain⟨e,_,h2,vs,u,m⟩:=(show cg X.prog X.w H1 c.heap a (.bZ o (.dK kvs)) from d.ar a _ g);obtain⟨o',es,ep,i,hc,hd,r⟩:=id m;rw[e] at i;cases i;obtain⟨n,vs,p,f⟩:=AI d g hd;have hl:(kvs.map (·.1)).length=vs.length:=by rw[<-p,aQ]
 refine wpAny_pyIter_dict (knd:=dD X.prog X.w) n f ?_;refine⟨c.heap.objs.size,[c.heap.objs.size],_,_,H1,rfl,d.kept (t':=c.toks) λb o e=>bu _ e,Yi a _ hd,⟨_,cy _ rfl,rfl,by rw[hl];rfl⟩,λb t=>?_,q⟩;have e:b=c.heap.objs.size:=by simpa using t
 subst e;exact d.ng (aJ _) (d.ar.fresh (aJ _))
def keyOf:Key->D
 |.inl i=>.int i
 |.inr x=>.str x
theorem VO{mg:aA}{ι:Io}{n:Nat}{H:Hp}(k:Key):RV mg ι n H (keyOf k) (kV k):=by
 cases k<;>rfl
theorem RK.qK{mg:aA}{ι:Io}{H:Hp}:∀{ds:List (Key×D)} {vs:List (Key×V)} {n:Nat},RK mg ι n H ds vs->vs.map (·.1)=ds.map (·.1)
 |[],vs,_,h=>by have h':vs=[]:=h;rw[h'];rfl
 |d::ds,vs,n,h=>by
  obtain⟨x,r,rfl,_,a⟩:=h;rw[cJ,cJ,RK.qK a]
theorem Rq{mg:aA}{A:Ar}{ι:Io}{H:Hp}{q:Nat}{o:Obj}{kvs:List (Key×D)}(b:q<A.length):lQ mg A ι H (zq (ι q) o (kvs.map (·.1))) (kvs.map λp=>keyOf p.1) (λA'=>A'[q]?=some (.bV o kvs)) where
 go:=λi d f a H1 hd e r hc=>by
  obtain⟨xs,h1,h2⟩:=r.bV hc;rw[e.ag q b] at h1;have hi:=(bP.mp hd).1;rw[aQ] at hi;refine⟨⟨xs,h1,RK.qK h2,by rw[aQ];exact hi⟩,λx H' y=>?_⟩;obtain⟨rfl,k,c,rfl⟩:=y;refine⟨r.refl,r,?_⟩;rw[bM,a_ hi] at hd c;cases hd;cases c;exact VO _
 stop:=λf a H1 e r hc=>by
  obtain⟨xs,h1,h2⟩:=r.bV hc;rw[e.ag q b] at h1;exact⟨xs,h1,RK.qK h2,θ⟩
@[irreducible] def tR(r:Nat)(A:Ar)(R:Bi->(Ar->Prop)->Ar->Prop):Prop:=match A[r]? with
 |some (.bV o kvs)=>R (kvs.map λp=>keyOf p.1) (λA'=>A'[r]?=some (.bV o kvs)) A
 |_=>False
def tO(m:aO):jr:=λτ A R=>m τ A λx A1=>match x with
 |.ref r=>tR r A1 R
 |_=>False
section
variable{tg e:Expr}{m:aO}
theorem vU(f:PE X e (up X.mg N m)):PI X tg e (j9 X.mg N (tO m)):=qD (UK f) λσ H Q q=>by
 obtain⟨A,ι,τ,R,S,q,k⟩:=q;refine⟨A,ι,τ,_,S,q,λx c b H1 u a g d h=>?_⟩;cases x with
 |ref r=>
  obtain⟨i,rfl⟩:=h;have a:tR r c R:=a;unfold tR at a;split at a
  .rename_i o kvs e
   obtain⟨xs,h1,h2⟩:=d.bV e;refine⟨_,o,xs,rfl,h1,?_⟩;rw[RK.qK h2];exact k _ _ c b H1 _ a g d (Rq i)
  .exact a.elim
 |_=>exact a.elim
def K8(r:Nat)(o:Obj)(A2:Ar)(Q:Ar->Prop):Prop:=∃kvs,A2[r]?=some (.bV o kvs)/\Q (A2.set r (.dct kvs))
theorem Gk{σ:St}{H:Hp}{A:Ar}{ι:Io}{τ:bQ}{r:Nat}{kvs:List (Key×D)}{xs:List (Key×V)}{o:Obj}(S:eB X.mg N A ι τ σ H)(e:A[r]?=some (.dct kvs))(h1:H (ι r)=some (.dK xs))(h2:RK X.mg ι A.length H kvs xs):
  eB X.mg N (A.set r (.bV o kvs)) ι τ σ (ax H (ι r) (.bZ o (.dK xs)))/\Ext A ι H (A.set r (.bV o kvs)) ι (ax H (ι r) (.bZ o (.dK xs))):=by
 have hl:=(bP.mp e).1;have E:=S.ra.oU (o:=.bZ o (.dK xs)) (c:=.bV o kvs) hl;obtain⟨ra,a⟩:=S.ra.put (c':=.bV o kvs) (o:=.bZ o (.dK xs)) e h1 rfl ⟨_,d9,by simpa using RK.ext E kvs xs h2⟩;exact⟨S.next a ra,a⟩
theorem Gj{mg:aA}{H:Hp}{A:Ar}{ι:Io}{r:Nat}{kvs:List (Key×D)}{o:Obj}(ra:RA mg ι H A)(e:A[r]?=some (.bV o kvs)):∃xs,H (ι r)=some (.bZ o (.dK xs))/\RA mg ι (ax H (ι r) (.dK xs)) (A.set r (.dct kvs))/\Ext A ι H (A.set r (.dct kvs)) ι (ax H (ι r) (.dK xs)):=by
 obtain⟨xs,h1,h2⟩:=ra.bV e;have hl:=(bP.mp e).1;have E:=ra.oU (o:=.dK xs) (c:=.dct kvs) hl;obtain⟨a,b⟩:=ra.put (c':=.dct kvs) (o:=.dK xs) e h1 rfl ⟨_,d9,by simpa using RK.ext E kvs xs h2⟩;exact⟨xs,h1,a,b⟩
end
theorem Bg{A:Ar}{r:Nat}{o:Obj}{kvs:List (Key×D)}{R:Bi->(Ar->Prop)->Ar->Prop}(h:A[r]?=some (.bV o kvs))(k:R (kvs.map λp=>keyOf p.1) (λA'=>A'[r]?=some (.bV o kvs)) A):tR r A R:=by
 unfold tR;rw[h];exact k
theorem G1{A:Ar}{r:Nat}{o:Obj}{kvs:List (Key×D)}{y v:D}{k:Key}{R:DK}(h:A[r]?=some (.bV o kvs))(a:gw y=some k)(b:bF kvs k=some v)(q:R v A):l_ r y A R:=by
 unfold l_;rw[h];simp only[a,b];exact q
theorem range_any(bs:Fn):((range bs.length).any λi=>(bs[i]?).getD false)=bs.any id:=by
 rw[nI,nQ,nQ];constructor
 .rintro ⟨i,hi,h⟩
  have hi:i<bs.length:=by simpa using hi
  rw[a_ hi] at h;exact⟨_,lu hi,h⟩
 .rintro ⟨b,a,h⟩
  obtain⟨i,hi,e⟩:=jm a;exact⟨i,by simpa using hi,by rw[a_ hi,e];exact h⟩
theorem MD(hc:X.calm=true):eG X (.builtin "any") (λxs H Q=>∃(p:Addr) (bs:Fn),xs=[.ref p]/\aU X.K H p (bs.map V.bl)/\Q (.bl (bs.any id)) H):=by
 intro ae s σ H xs m Q I r h;obtain⟨p,bs,rfl,f,q⟩:=h;obtain⟨u,rfl,g⟩:=vals1 r;cases g;obtain⟨vs,j,pl,hz⟩:=I.list f;have c:=zV j;have hl:=pl.isList;have a:p<s.heap.objs.size:=by obtain⟨_,e,_⟩:=hl;exact aW e
 refine call_any_walk (pW hl ?_);refine⟨s.heap.objs.size,[s.heap.objs.size,p],[s.heap.objs.size],vs.toArray.size,_,_,λi=>(bs[i]?).getD false,rfl,Walks.list (A:=X.A.in1) (I.ok.hd hc) _ p (bJ a) vs.toArray,
  ⟨⟨_,cy _ rfl,rfl,rfl⟩,hl.push _⟩,λi v s' n o k d=>?_,λh' tk l=>?_⟩
 .obtain⟨b,e,rfl⟩:=c.get i v (by simpa using k)
  simp only[e,getD_some] at d;exact nN d
 .have e:((range vs.toArray.size).any λi=>(bs[i]?).getD false)=bs.any id:=by
   rw[bT,c.length];exact range_any bs
  rw[e];exact⟨.bl _,H,I.kept (h':=h') (t':=tk) (LSm.kept_iter l),rfl,q⟩
theorem Mx:bootBuiltins "any"=some (.builtin "any"):=by with_unfolding_all rfl
@[irreducible] def anyR(r:Nat)(A:Ar)(R:DK):Prop:=match A[r]? with
 |some (.lst xs)=>(match ia xs with
  |some bs=>R (.bl (bs.any id)) A
  |none=>False)
 |_=>False
def zO:gX:=λvs A R=>match vs with
 |[.ref r]=>anyR r A R
 |_=>False
theorem Np{mg:aA}{K:Frag}:iz mg (λxs H Q=>∃(p:Addr) (bs:Fn),xs=[.ref p]/\aU K H p (bs.map V.bl)/\Q (.bl (bs.any id)) H) zO:=by
 intro ds A ι H a R Q ra rs h k;unfold zO at h;split at h
 .obtain⟨_,_,rfl,⟨_,rfl⟩,rfl⟩:=rs
  unfold anyR at h;split at h
  .rename_i xs e
   split at h
   .rename_i bs b
    obtain⟨a,h1,c⟩:=ra.lst e;exact⟨_,bs,rfl,aU.of (by rw[h1,sS b c]),k.here ra h rfl⟩
   .exact h.elim
  .exact h.elim
 .exact h.elim
theorem Mk{A:Ar}{r:Nat}{xs:Bi}{bs:Fn}{R:DK}(h:A[r]?=some (.lst xs))(a:ia xs=some bs)(k:R (.bl (bs.any id)) A):anyR r A R:=by
 unfold anyR;simp only[h,a];exact k
end L2
end
namespace KO
open PySem PySem.W PyProof.Rows
section
variable{O:KeyOrd}{key:Nat->O.α}{n:Nat}{cmp:Nat->Nat->(Bool->Shared->Prop)->Shared->Prop}{s:Shared}
def kp(O:KeyOrd)(key:Nat->O.α)(p:Array Nat)(i:Nat):O.α:=key (p.getD i 0)
def Up(O:KeyOrd)(key:Nat->O.α)(p:Array Nat)(k:Nat):Prop:=∀i j,i<=j->j<k->O.kle (kp O key p i) (kp O key p j)
def Dn(O:KeyOrd)(key:Nat->O.α)(p:Array Nat)(k:Nat):Prop:=∀i j,i<=j->j<k->O.kle (kp O key p j) (kp O key p i)
def Pm(n:Nat)(p:Array Nat):Prop:=p.Perm (range n).toArray
theorem Pm.size{p:Array Nat}(h:Pm n p):p.size=n:=by
 have:=Array.Perm.size_eq h;simpa using this
theorem Pm.lt{p:Array Nat}(h:Pm n p){i:Nat}(hi:i<n):p.getD i 0<n:=by
 have hz:=h.size;have a:p[i]' ω∈p:=Array.getElem_mem _;have:=(Array.Perm.mem_iff h).mp a;rw[nY,gV ω];simpa using this
theorem tU{p q:Array Nat}{i j:Nat}(h:p[i]?=q[j]?):kp O key p i=kp O key q j:=by
 unfold kp;rw[nY,nY,h]
theorem Bl{p:Array Nat}{i j:Nat}(a:j<=p.size)(k:Nat):kp O key (kas_rev p i j) k=if i<=k/\k<j then kp O key p (i+j - 1 - k) else kp O key p k:=by
 have e:=getElem?_mirror_all (xs:=p) (i:=i) a k;split
 .rename_i h;rw[aC h] at e;exact tU e
 .rename_i h;rw[ay h] at e;exact tU e
theorem Bj{p:Array Nat}{i j:Nat}(b:j<=p.size)(a:∀k,i<=k->k<j->kp O key p k=kp O key p (j - 1))(k:Nat):kp O key (kas_rev p i j) k=kp O key p k:=by
 rw[Bl b];split
 .rw[a _ ω ω,a k ω ω]
 .rfl
theorem Pm.rev{p:Array Nat}(h:Pm n p)(i j:Nat):Pm n (kas_rev p i j):=(mirror_perm _ _ _ _).trans h
theorem Up.snoc{p:Array Nat}{x:Nat}(h:Up O key p x)(h1:1<=x)(c:O.blt (kp O key p x) (kp O key p (x - 1))=false):Up O key p (x+1):=λi j a d=>by
 by_cases b:j<x
 .exact h i j a b
 .have e:j=x:=ω
  subst e;by_cases hi:i=j
  .subst hi;exact pZ _
  .exact p5 (h i (j - 1) ω ω) c
theorem Dn.snoc{p:Array Nat}{x:Nat}(h:Dn O key p x)(h1:1<=x)(c:O.kle (kp O key p x) (kp O key p (x - 1))):Dn O key p (x+1):=λi j a d=>by
 by_cases b:j<x
 .exact h i j a b
 .have e:j=x:=ω
  subst e;by_cases hi:i=j
  .subst hi;exact pZ _
  .exact p5 c (h i (j - 1) ω ω)
variable(hc:∀i j,i<n->j<n->∀C:Bool->Shared->Prop,C (O.blt (key i) (key j)) s->cmp i j C s)
include hc
theorem sQ{α:Type}{p:Array Nat}(a:Pm n p){i j:Nat}(hi:i<n)(b:j<n){k:Bool->KasT α}{G:α->Shared->Prop}(h:(k (O.blt (kp O key p i) (kp O key p j))).kasWp cmp G s):(KasT.ask (p.getD i 0) (p.getD j 0) k).kasWp cmp G s:=
 hc _ _ (a.lt hi) (a.lt b) _ h
theorem zQ{p:Array Nat}(d:Pm n p){b:Nat}(k:b<=n){G:Nat->Shared->Prop}:∀(f a:Nat),1<=a->a+f=b->Up O key p a->
  (∀m,a<=m->m<=b->Up O key p m->(m=b\/O.klt (kp O key p m) (kp O key p (m - 1)))->G m s)->(kas_asc p f a).kasWp cmp G s
 |0,a,h1,e,c,h=>h a (aJ _) ω c (.inl ω)
 |f+1,a,h1,e,c,h=>by
  refine sQ hc d (i:=a) (j:=a - 1) ω ω ?_;cases g:O.blt (kp O key p a) (kp O key p (a - 1)) with
  |true=>rw[aC rfl];exact h a (aJ _) ω c (.inr g)
  |false=>
   rw[ay cF];exact zQ d k f (a+1) ω ω (c.snoc h1 g) λm l=>h m ω
theorem vS{a:Nat}(r:a<=n){G:Array Nat×Nat×Nat->Shared->Prop}:∀(f:Nat) (p:Array Nat) (x q:Nat),Pm n p->1<=x->x+f=a->Dn O key p x->q+1<=x->(∀i,x - (q+1)<=i->i<x->kp O key p i=kp O key p (x - 1))->
  (∀b m d,Pm n b->x<=m->m<=a->Dn O key b m->d+1<=m->(∀i,m - (d+1)<=i->i<m->kp O key b i=kp O key b (m - 1))->G (b,m,d) s)->(kas_desc f p x q).kasWp cmp G s
 |0,p,x,q,g,h1,e,k,t,l,h=>h p x q g (aJ _) ω k t l
 |f+1,p,x,q,g,h1,e,k,t,l,h=>by
  have hz:=g.size;refine sQ hc g (i:=x) (j:=x - 1) ω ω ?_;cases u:O.blt (kp O key p x) (kp O key p (x - 1)) with
  |true=>
   rw[aC rfl];by_cases o:q>0
   .rw[aC o]
    have y:=Bj (O:=O) (key:=key) (p:=p) (i:=x - (q+1)) (j:=x) ω l;refine vS r f _ (x+1) 0 (g.rev _ _) ω ω (λi j v A=>?_) ω (λi i1 i2=>by congr 1;omega) λb m d c z=>h b m d c ω;rw[y,y];exact(k.snoc h1 (u_ u)) i j v A
   .rw[ay o]
    exact vS r f p (x+1) 0 g ω ω (k.snoc h1 (u_ u)) ω (λi i1 i2=>by congr 1;omega) λb m d c z=>h b m d c ω
  |false=>
   rw[ay cF];refine sQ hc g (i:=x - 1) (j:=x) ω ω ?_;cases hd:O.blt (kp O key p (x - 1)) (kp O key p x) with
   |true=>rw[aC rfl];exact h p x q g (aJ _) ω k t l
   |false=>
    rw[ay cF];have ex:kp O key p x=kp O key p (x - 1):=KeyOrd.kle_antisymm hd u;refine vS r f p (x+1) (q+1) g ω ω (k.snoc h1 hd) ω (λi i1 i2=>?_) λb m d c z=>h b m d c ω;rw[(ω:x+1 - 1=x)];by_cases w:i=x
    .rw[w]
    .rw[ex];exact l i ω ω
theorem K4{p:Array Nat}(b:Pm n p){m a:Nat}(e:a<=n)(h1:1<=m)(q:m<=a)(f:Dn O key p m){G:Nat×Array Nat->Shared->Prop}(h:∀k c,Pm n c->1<=k->k<=a->Up O key c k->G (k,c) s):(kas_tail3 m a p).kasWp cmp G s:=by
 have hz:=b.size;unfold kas_tail3;rw[KasT.kasWp_bind];refine zQ hc (b.rev 0 m) e _ m h1 ω (λi j g r=>?_) λk l d o _=>h k _ (b.rev 0 m) ω d o;rw[Bl ω,Bl ω,aC ω,aC ω];exact f _ _ ω ω
theorem Ia{p:Array Nat}(r:Pm n p){m a:Nat}(g:a<=n)(x:m+1<=a)(t:Dn O key p (m+1)){G:Nat×Array Nat->Shared->Prop}(h:∀k c,Pm n c->1<=k->k<=a->Up O key c k->G (k,c) s):(kas_descPart m a p).kasWp cmp G s:=by
 unfold kas_descPart;rw[KasT.kasWp_bind];refine vS hc g _ p (m+1) 0 r ω ω t ω (λi i1 i2=>by congr 1;omega) λc k q b u d e y v=>?_;have hz:=b.size;by_cases f:q>0
 .simp only[f,ly]
  have o:=Bj (O:=O) (key:=key) (p:=c) (i:=k - (q+1)) (j:=k) ω v;refine K4 hc (b.rev _ _) g ω d (λi j l w=>?_) h;rw[o,o];exact e i j l w
 .simp only[f,gz]
  exact K4 hc b g ω d e h
theorem M4{p:Array Nat}(b:Pm n p)(h1:1<=n){G:Nat×Array Nat->Shared->Prop}(h:∀k r,Pm n r->1<=k->k<=n->Up O key r k->G (k,r) s):(kas_count n p).kasWp cmp G s:=by
 have hz:=b.size;unfold kas_count;rw[KasT.kasWp_bind];refine zQ hc b (aJ n) _ 1 (aJ _) ω (λi j a f=>by have e:i=j:=ω;rw[e];exact pZ _) λm c g o t=>?_;by_cases d:m=n
 .rw[aC (by simpa using d)]
  exact h m p b c g o
 .rw[ay (by simpa using d)]
  have l:=t.resolve_left d;by_cases v:m>1
  .rw[aC v]
   refine sQ hc b (i:=0) (j:=m - 1) ω ω ?_;cases w:O.blt (kp O key p 0) (kp O key p (m - 1)) with
   |true=>rw[aC rfl];exact h m p b c g o
   |false=>
    rw[ay cF];have u:∀k,0<=k->k<m->kp O key p k=kp O key p (m - 1):=λk _ q=>
     KeyOrd.kle_antisymm (o k (m - 1) ω ω) (p5 w (o 0 k ω q))
    have q:=Bj (O:=O) (key:=key) (p:=p) (i:=0) (j:=m) ω u;refine Ia hc (b.rev 0 m) (aJ n) ω (λi j a f=>?_) h;rw[q,q];have hd:Dn O key p m:=λi j a f=>by rw[u i ω ω,u j ω f];exact pZ _
    exact(hd.snoc c (u_ l)) i j a f
  .rw[ay v]
   have e:m=1:=ω
   subst e;have hd:Dn O key p 1:=λi j a f=>by have e:i=j:=ω;rw[e];exact pZ _
   exact Ia hc b (aJ n) ω (hd.snoc (aJ _) (u_ l)) h
theorem BU{p:Array Nat}(g:Pm n p){k:Nat}(m:k<n)(d:Up O key p k){G:Nat->Shared->Prop}:∀(f l r:Nat),l<=r->r<=k->r - l<=f->(∀i,i<l->O.kle (kp O key p i) (kp O key p k))->(∀i,r<=i->i<k->O.klt (kp O key p k) (kp O key p i))->
  (∀l,l<=k->(∀i,i<l->O.kle (kp O key p i) (kp O key p k))->(∀i,l<=i->i<k->O.klt (kp O key p k) (kp O key p i))->G l s)->(kas_place p k f l r).kasWp cmp G s
 |0,l,r,o,q,u,a,b,h=>by
  have e:l=r:=ω
  exact h l ω a (e▸b)
 |f+1,l,r,o,q,u,a,b,h=>by
  unfold kas_place;by_cases c:l≥r
  .rw[aC c]
   have e:l=r:=ω
   exact h l ω a (e▸b)
  .rw[ay c]
   refine sQ hc g (i:=k) (j:=(l+r)/2) m ω ?_;cases t:O.blt (kp O key p k) (kp O key p ((l+r)/2)) with
   |true=>
    rw[aC rfl];exact BU g m d f l ((l+r)/2) ω ω ω a (λi i1 i2=>KeyOrd.klt_of_klt_of_kle t (d _ _ i1 i2)) h
   |false=>
    rw[ay cF];exact BU g m d f ((l+r)/2+1) r ω ω ω (λi i1=>p5 (d i ((l+r)/2) ω ω) t) b h
theorem Eh{G:Array Nat->Shared->Prop}(h:∀g,Pm n g->Up O key g n->G g s):∀(f:Nat) (p:Array Nat) (k:Nat),Pm n p->k+f=n->Up O key p k->(kas_bin f p k).kasWp cmp G s
 |0,p,k,b,e,d=>h p b (by rw[<-e];exact d)
 |f+1,p,k,b,e,d=>by
  have hz:=b.size;unfold kas_bin;rw[KasT.kasWp_bind];refine BU hc b ω d k 0 k ω (aJ _) ω (λi hi=>ω) (λi i1 i2=>ω) λl hl m o=>?_;refine Eh h f _ (k+1) ((bubble_perm _ _ _).trans b) ω λi j q r=>?_;have c:∀x,kp O key (bubble p k (k - l)) x=if x=l then kp O key p k else if l<x/\x<=k then kp O key p (x - 1) else kp O key p x:=λx=>by
   have a:=getElem?_bubble (xs:=p) (src:=k) ω (k - l) ω x;rw[(ω:k - (k - l)=l)] at a;split
   .rename_i h1;rw[aC h1] at a;exact tU a
   .rename_i h1
    rw[ay h1] at a;split
    .rename_i h2;rw[aC h2] at a;exact tU a
    .rename_i h2;rw[ay h2] at a;exact tU a
  rw[c,c];repeat' split
  all_goals first
   |(exfalso;omega)
   |exact pZ _
   |exact m _ ω
   |exact u_ (o _ ω ω)
   |exact d _ _ ω ω
theorem W6{G:Array Nat->Shared->Prop}(h1:1<=n)(h:∀a,Pm n a->Up O key a n->G a s):(kas_sort n).kasWp cmp G s:=by
 unfold kas_sort;rw[KasT.kasWp_bind];refine M4 hc (Array.Perm.refl _) h1 λk p b e f c=>?_;by_cases d:k<n
 .simp only[d,ly]
  rw[(ω:max k 1=k)];exact Eh hc h _ p k b ω c
 .simp only[d,gz]
  exact h p b (by rw[(ω:n=k)];exact c)
end
end KO
namespace KP
open PySem PySem.W PySem.Spec PyProof.Rows KO
section
variable{prog:Program}{w:World}{A:Around}{E:aR}{s:Shared}
theorem R5{κ:SortKind}{O:KeyOrd}{key:Nat->O.α}{a:Addr}{vs:BM}{n:Nat}{P:PySem.Fin->Shared->Prop}(m:s.heap.get? a=some (seqObj "list" vs.toArray n))(r:vs.length<64)
  (I:∀s':Shared,(∀b o,b≠a->s.heap.get? b=some o->s'.heap.get? b=some o)->2<=vs.length->∀R:SortKind->Shared->Prop,R κ s'->wpAny (model prog w) A (keyKind' vs.toArray) R (λ_ _=>False) s')
  (hc:∀s':Shared,(∀b o,b≠a->s.heap.get? b=some o->s'.heap.get? b=some o)->∀i j,i<vs.length->j<vs.length->∀C:Bool->Shared->Prop,C (O.blt (key i) (key j)) s'->kas_ask prog w A κ vs i j C s')
  (h:∀p:Array Nat,Pm vs.length p->Up O key p vs.length->P (.done (.ret .none)) {s with heap:=sortedHeap s.heap a vs (p.toList.map λi=>vs.getD i Value.none).toArray}):
  wpAny (model prog w) A (Builtin.«list.sort» ⟨[.ref a],[]⟩) P E s:=by
 rw[list_sort_plain]
 have H:a<s.heap.objs.size:=aW m
 refine ah (listItems_at m rfl ?_)
 refine ah (listUpdate_at m rfl ?_ (by rw[bT,lG];omega) (cA _))
 obtain⟨t,g⟩:∃t,(s.heap.update a (Obj.mapSeq λ_=>(#[]:Array Value))).get? a=some (seqObj "list" #[] t):=⟨_,get?_update_seq m λ_=> #[]⟩
 refine ah (seqEpoch_at g rfl ?_)
 refine ah (wpAny_newTuple ?_ (by show vs.length<=_;rw[lG];omega))
 refine ah (yX ?_ (cA _))
 refine gn ?_
 have c:(((s.heap.update a (Obj.mapSeq λ_=>(#[]:Array Value))).push (seqObj "tuple" vs.toArray 0)).push (seqObj "list" #[] 0)).get? a=some (seqObj "list" #[] t):=by
  rw[get?_push_ne _ _ _ (by rw[pR,pS];exact bJ (gm H)),get?_push_ne _ _ _ (by rw[pS];exact bJ H)]
  exact g
 have kp:∀b o,b≠a->s.heap.get? b=some o->(((s.heap.update a (Obj.mapSeq λ_=>(#[]:Array Value))).push (seqObj "tuple" vs.toArray 0)).push (seqObj "list" #[] 0)).get? b=some o:=λb o J q=>
  bu _ (bu _ (by rw[Heap.get?_update_ne _ _ _ _ J];exact q))
 show wpAny (model prog w) A _ P E {s with heap:=((s.heap.update a (Obj.mapSeq λ_=>(#[]:Array Value))).push (seqObj "tuple" vs.toArray 0)).push (seqObj "list" #[] 0)}
 dsimp only
 by_cases h2:vs.toArray.size<2
 .rw[aC h2,aC h2]
  refine ah (aF ?_)
  rw[StateT.run_pure]
  refine ah (aF ?_)
  dsimp only
  have u:vs.length<2:=by simpa using h2
  have e:=h (range vs.length).toArray (Array.Perm.refl _) λi j K Y=>by
   have L:i=j:=ω
   rw[L];exact pZ _
  have M:(arrOf (SortSt.mk' general' (vs.toArray.zip vs.toArray) #[] 7 none)).map (·.2)=((range vs.length).toArray.toList.map λi=>vs.getD i Value.none).toArray:=by
   refine kat_snds (ks:=vs) rfl ?_
   have e:=kas_range (vs.toArray.zip vs.toArray)
   rw[(θ:(vs.toArray.zip vs.toArray).size=vs.length)] at e
   exact e.symm
  rw[M]
  refine ah (seqEpoch_at c rfl ?_)
  refine ah (listUpdate_at c rfl ?_ (cA _) (by rw[bT,aQ,rL,lG];omega))
  simp only[nS,jM,gz]
  exact aF e
 .rw[ay h2,ay h2]
  have u:2<=vs.length:=by
   have:vs.toArray.size=vs.length:=θ
   omega
  obtain⟨f,v⟩:∃f:Shared,f={s with heap:=((s.heap.update a (Obj.mapSeq λ_=>(#[]:Array Value))).push (seqObj "tuple" vs.toArray 0)).push (seqObj "list" #[] 0)}:=⟨_,rfl⟩
  have k:∀b o,b≠a->s.heap.get? b=some o->f.heap.get? b=some o:=by rw[v];exact kp
  rw[<-v]
  refine ah (jK (I f k u (λl s'=>l=κ/\s'=f) ⟨rfl,rfl⟩) ?_ λ_ _ x=>x.elim)
  rintro l s' ⟨N,es⟩
  rw[N,es]
  refine ah (jK (kat_run (ks:=vs) (vs:=vs) (Q:=λd s'=>∃p:Array Nat,p.size=vs.length/\arrOf d=p.map (kas_item (vs.toArray.zip vs.toArray))/\failedOf d=none/\Pm vs.length p/\Up O key p vs.length/\s'=f)
   (G:=λp s'=>Pm vs.length p/\Up O key p vs.length/\s'=f) rfl u r (λS d s' a1 a2 T U=>⟨S,a1,a2,T,U⟩)
   (W6 (O:=O) (key:=key) (hc f k) ω λp y V=>⟨y,V,rfl⟩)) ?_ λ_ _ e=>e)
  rintro ⟨⟨⟩,d⟩ W ⟨p,y,z,X,B,D,F⟩
  dsimp only
  rw[F]
  rw[kat_snds rfl z]
  subst v
  refine ah (seqEpoch_at c rfl ?_)
  refine ah (listUpdate_at c rfl ?_ (cA _) (by rw[bT,aQ,gA,y,lG];omega))
  rw[X]
  simp only[nS,jM,gz]
  exact aF (h p B D)
theorem W7{κ:SortKind}{O:KeyOrd}{key:Nat->O.α}{l:Addr}{vs:BM}{Q:aR}(hl:s.heap.IsList l vs.toArray)(d:vs.length<64)
  (f:∀s':Shared,(∀b o,s.heap.get? b=some o->s'.heap.get? b=some o)->2<=vs.length->∀R:SortKind->Shared->Prop,R κ s'->wpAny (model prog w) A.in1.in1 (keyKind' vs.toArray) R (λ_ _=>False) s')
  (hc:∀s':Shared,(∀b o,s.heap.get? b=some o->s'.heap.get? b=some o)->∀i j,i<vs.length->j<vs.length->∀C:Bool->Shared->Prop,C (O.blt (key i) (key j)) s'->kas_ask prog w A.in1.in1 κ vs i j C s')
  (h:∀(p:Array Nat) (h':Heap) (D:Addr) (e:Nat),Pm vs.length p->Up O key p vs.length->s.heap.objs.size<=D->h'.get? D=some (seqObj "list" (p.toList.map λi=>vs.getD i Value.none).toArray e)->(∀b o,s.heap.get? b=some o->h'.get? b=some o)->Q (.ref D) {s with heap:=h'}):
  wpAny (model prog w) A (call (.builtin "sorted") [.ref l]) Q E s:=by
 refine CT kind_sorted plain_sorted entry_sorted (args_sorted1 _) ?_
 unfold Builtin.«sorted»
 refine ah (m:=checkCount "sorted" 1 1 _) (aF ?_)
 refine ah (collect_list hl ?_ (by rw[lG];omega))
 refine ah (yX ?_ (by rw[lG];omega))
 have hsz:((s.heap.push (seqObj "list" #[] 0)).update s.heap.objs.size (Obj.mapSeq (·++vs.toArray))).objs.size=s.heap.objs.size+1:=by
  rw[pS,pR]
 have a:(((s.heap.push (seqObj "list" #[] 0)).update s.heap.objs.size (Obj.mapSeq (·++vs.toArray))).push (seqObj "list" vs.toArray 0)).get? (s.heap.objs.size+1)=some (seqObj "list" vs.toArray 0):=by
  rw[<-hsz];exact cy _ rfl
 have keep:∀b o,s.heap.get? b=some o->(((s.heap.push (seqObj "list" #[] 0)).update s.heap.objs.size (Obj.mapSeq (·++vs.toArray))).push (seqObj "list" vs.toArray 0)).get? b=some o:=λb o q=>by
  have c:b<s.heap.objs.size:=aW q
  rw[get?_push_ne _ _ _ (by rw[hsz];exact bJ (gm c)),Heap.get?_update_ne _ _ _ _ (bJ c),get?_push_ne _ _ _ (bJ c)]
  exact q
 have ne:∀b o,s.heap.get? b=some o->b≠s.heap.objs.size+1:=λb o q=>bJ (gm (aW q))
 show wpAny _ _ _ _ _ {s with heap:=((s.heap.push (seqObj "list" #[] 0)).update s.heap.objs.size (Obj.mapSeq (·++vs.toArray))).push (seqObj "list" vs.toArray 0)}
 rw[hsz]
 refine ah (gn (jo slot_list_sort ⟨_,a,rfl⟩ entry_list_sort ?body (args_list_sort _)))
 case body=>
  refine R5 (κ:=κ) (O:=O) (key:=key) (s:={s with heap:=((s.heap.push (seqObj "list" #[] 0)).update s.heap.objs.size (Obj.mapSeq (·++vs.toArray))).push (seqObj "list" vs.toArray 0)})
   a d (λs' k=>f s' λb o q=>k b o (ne b o q) (keep b o q)) (λs' k=>hc s' λb o q=>k b o (ne b o q) (keep b o q)) λp g n=>⟨_,rfl,aF ⟨_,rfl,?_⟩⟩
  obtain⟨e,r⟩:=sortedHeap_at (out:=(p.toList.map λi=>vs.getD i Value.none).toArray) a
  refine h p _ _ e g n (nH _) r λb o q=> ?_
  rw[sortedHeap_old (ne b o q) (aW (keep b o q))]
  exact keep b o q
theorem Hq{b fin r:Bool}{Q:Bool->Shared->Prop}(q:Q r s):∀{zs:List (Value×Value)} {i:Nat},0<i->L2.jQ .Lt A s fin r zs->KatLex prog w A b fin Q zs i s
 |[],i,hi,h=>by
  cases h with
  |nil e=>exact kat_nil (by rw[e];exact q)
 |(y,x)::zs,i,hi,h=>by
  refine kat_cons ?_;cases h with
  |eq h1 h2=>exact h1 prog w _ _ (kat_yes (Hq q ω h2))
  |ne h1 h2=>
   refine h1 prog w _ _ (kat_no ?_);have e:(b&&i==0)=false:=by
    cases i with
    |zero=>omega
    |succ i=>simp
   rw[e];exact kat_one _ _ (h2 prog w _ _ q)
theorem RG{x y:Value}{a c:Str}{xs ys:Fm}{as bs:D1}{r:Bool}{Q:Bool->Shared->Prop}(e:L2.ltQ (.tuple (.str a::xs)) (.tuple (.str c::ys))=some r)(t:Reads s.heap x (.tuple (.str a::xs)) as)(u:Reads s.heap y (.tuple (.str c::ys)) bs)
  (v:canLay0 (.tuple (.str a::xs))=true)(z:canLay0 (.tuple (.str c::ys))=true)(j:A.units+min (depthAll (.str a::xs)) (depthAll (.str c::ys))<cLine)(q:Q r s):wpAny (model prog w) A (keyLt' (tuples' true) x y) Q E s:=by
 cases t with
 | @tuple l o vs n _ h h1 h2 B k=>
  cases u with
  | @tuple F o' b n' _ i k1 k2 k3 m=>
   refine kat_lt h1 B k1 k3 ?_;rw[L2.ltQ] at e;have hsz:decide (vs.size<b.size)=decide (vs.toList.length<b.toList.length):=θ
   rw[hsz];generalize vs.toList=G at k ⊢;generalize b.toList=C at m ⊢;have d:canLay0 (.str a)=true/\canLayAll0 xs=true:=by simpa[canLay0,canLayAll0] using v
   have f:canLay0 (.str c)=true/\canLayAll0 ys=true:=by simpa[canLay0,canLayAll0] using z
   cases k with
   |cons a1 a2=>
    cases m with
    |cons p D=>
     have g:=SeqAt.eqAt_reads (.str a) (.str c) A s _ _ _ _ a1 p d.1 f.1 (SeqAt.room_head j);cases a1;cases p;rw[List.zip_cons_cons,L2.Hj];refine kat_cons ?_;rw[L2.gx] at e;cases ce:PyData.eqv (.str a) (.str c) with
     |true=>
      rw[ce] at e g;exact g prog w _ _ (kat_yes (Hq q ω (L2.Br xs ys A s _ _ _ _ r e a2 D d.2 f.2 (SeqAt.room_tail j))))
     |false=>
      rw[ce] at e g;refine g prog w _ _ (kat_no (oneLt_str ?_));have e:L2.ltQ (.str a) (.str c)=some r:=e;rw[L2.ltQ] at e;cases e;exact q
end
end KP
section
open PySem PySem.Spec PyProof.Rows
namespace L2
open PySem.SeqAt
theorem N7{xs ys:Fm}{u:Nat}(h1:(PyData.tuple xs).depth<=60)(a:u+64<cLine):u+2+min (depthAll xs) (depthAll ys)<cLine:=by
 have e:(PyData.tuple xs).depth=depthAll xs+1:=rfl;omega
theorem kat_tups{h:Heap}:∀{vs:BM} {qs:Fm},vs.length=qs.length->(∀(i:Nat) v q,vs[i]?=some v->qs[i]?=some q->∃as x r,Reads h v q as/\q=.tuple (.str x::r))->∃fs:BM,fs.length=vs.length/\PySem.W.KatTups h vs fs/\∀v∈fs,∃x t,v=Value.str x t
 |[],[],_,_=>⟨[],rfl,.nil,λ_ h=>by cases h⟩
 |v::vs,q::qs,e,k=>by
  obtain⟨fs,h1,h2,c⟩:=kat_tups (vs:=vs) (qs:=qs) (by simpa using e) λi d f g j=>k (i+1) d f (by simpa using g) (by simpa using j);obtain⟨as,x,r,rd,rfl⟩:=k 0 v q rfl rfl;cases rd with
  | @tuple l o m n _ a p s u b=>
   generalize w:m.toList=ul at b;cases b with
   | @cons y vr _ _ _ _ a1 a2=>
    cases a1 with
    |str _ t=>
     refine⟨Value.str x t::fs,by simp[h1],.cons p s u ?_ h2,λv hv=>?_⟩
     .rw[<-nG,w];rfl
     .rcases bx.mp hv with rfl|hv
      .exact⟨x,t,rfl⟩
      .exact c v hv
variable{X:Cx}
theorem Er(hc:X.calm=true)(hu:X.A.units+64<cLine):eG X (.builtin "sorted") (λxs H Q=>∃(a:Addr) (vs:Bn) (qs:Fm) (O:KeyOrd) (key:Nat->O.α),xs=[.ref a]/\aU X.K H a vs/\vs.length<64/\vs.length=qs.length/\
  (∀(i:Nat) v q,vs[i]? =some v->qs[i]? =some q->Dp X.K H v q/\q.canLay0=true/\q.depth<=60/\∃x r,q= .tuple (.str x::r))/\(∀(i j:Nat) p q,qs[i]? =some p->qs[j]? =some q->ltQ p q=some (O.blt (key i) (key j)))/\
  ∀(l:Addr) (p:Array Nat),H l=none->KO.Pm vs.length p->KO.Up O key p vs.length->Q (.ref l) (ax H l (.lst (p.toList.map λi=>vs.getD i .aG)))):=by
 intro ae s σ H xs us Q I r h
 obtain⟨a,vs,qs,O,key,rfl,hq,B,hl,hd,hk,q⟩:=h
 obtain⟨u,rfl,ru⟩:=vals1 r
 cases ru
 obtain⟨its,E,pl,hz⟩:=I.list hq
 have F:=E.length
 have rd:∀(i:Nat) u p,its[i]? =some u->qs[i]? =some p->∃as x r,Reads s.heap u p as/\p= .tuple (.str x::r)/\p.canLay0=true/\p.depth<=60:=λi u p k G=>by
  have hi:i<its.length:=(bP.mp k).1
  obtain⟨u',m,J⟩:=Vals.get E (a_ (ω:i<vs.length))
  rw[k] at m
  cases m
  obtain⟨d1,d2,d3,x,r,d4⟩:=hd i _ p (a_ (ω:i<vs.length)) G
  obtain⟨as,d5⟩:=Dp.reads I p _ u d1 J
  exact⟨as,x,r,d5,d4,d2,d3⟩
 refine KP.W7 (κ:=tuples' true) (O:=O) (key:=key) (vs:=its) pl.isList ω (λs' kp h2 R hR=> ?_) (λs' kp i j hi hj C hC=> ?_) λp h' D e L d hD ho kp=> ?_
 .obtain⟨fs,f1,f2,f3⟩:=kat_tups (h:=s'.heap) (vs:=its) (qs:=qs) ω λi v q k G=>by
   obtain⟨as,x,r,n,M,_⟩:=rd i v q k G
   exact⟨as,x,r,PyProof.Rows.Reads.keeps kp n,M⟩
  refine PySem.W.kat_kind (T:=Value.type "str") f2 ω (λv hv=> ?_) δ hR
  obtain⟨x,t,rfl⟩:=f3 v hv
  exact PySem.W.Looks.of_pure rfl
 .have N:=a_ hi
  have P:=a_ hj
  have S:=a_ (ω:i<qs.length)
  have U:=a_ (ω:j<qs.length)
  obtain⟨as,x,r,n,M,Y,Z⟩:=rd i _ _ N S
  obtain⟨bs,y,t,k1,k2,k3,k4⟩:=rd j _ _ P U
  have c:=hk i j _ _ S U
  rw[M] at n Y Z c
  rw[k2] at k1 k3 c
  unfold PySem.W.kas_ask
  rw[fZ,fZ,N,P]
  exact KP.RG c (PyProof.Rows.Reads.keeps kp n) (PyProof.Rows.Reads.keeps kp k1) Y k3 (N7 Z hu) hC
 .have f:∀u,s.heap.get? D≠some u:=λu z=>absurd (cY (aW z) hD) (fJ _)
  have hn:H D=none:=by
   cases e0:H D with
   |none=>rfl
   |some o=>
    obtain⟨u,z⟩:=(I.ar _ _ e0).obj
    exact absurd z (f u)
  rw[<-F] at L d
  refine⟨.ref D,ax H D (.lst (p.toList.map λi=>vs.getD i .aG)),?_,rfl,q D p hn L d⟩
  refine I.BB (t':=s.toks) kp (jb.new hn _) λb o w=> ?_
  by_cases hb:b=D
  .subst hb
   rw[d9] at w
   cases w
   refine .inr ⟨f,?_⟩
   refine⟨by rw[aQ,gA,L.size];exact j_ (cY B δ),p.toList.map λi=>its.getD i Value.none,e,?_,ho⟩
   generalize p.toList=g
   induction g with
   |nil=>exact .nil
   |cons i g ih=>
    refine .cons ?_ ih
    show RelV (vs.getD i .aG) (its.getD i Value.none)
    rw[fZ,fZ]
    by_cases hi:i<vs.length
    .obtain⟨u',m,J⟩:=Vals.get E (a_ hi)
     rw[a_ hi,m]
     exact J
    .rw[nZ ω,nZ ω]
     rfl
  .rw[aX hb] at w
   exact .inl w
@[irreducible] def yt(r:Nat)(A:Ar)(R:DK):Prop:=match A[r]? with
 |some (.lst ds)=>ds.length<64/\(∀d∈ds,gO d=true/\(toQ d).canLay0=true/\(toQ d).depth<=60/\∃x r,toQ d=.tuple (.str x::r))/\
  ∃(O:KeyOrd) (key:D->O.α),(∀d∈ds,∀e∈ds,ltQ (toQ d) (toQ e)=some (O.blt (key d) (key e)))/\∀es:Bi,es.Perm ds->es.Pairwise (λa b=>O.kle (key a) (key b))->R (.ref A.length) (A++[.lst es])
 |_=>False
def KQ:gX:=λvs A R=>match vs with
 |[.ref r]=>yt r A R
 |_=>False
theorem SE{α:Type}(d:α):∀(l:List α),(range l.length).map (λi=>l.getD i d)=l:=λl=>by
 apply List.ext_getElem
 .simp
 .intro i h1 h2
  simp[h2]
theorem E3{mg:aA}{K:Frag}:iz mg (λxs H Q=>∃(a:Addr) (vs:Bn) (qs:Fm) (O:KeyOrd) (key:Nat->O.α),xs=[.ref a]/\aU K H a vs/\vs.length<64/\vs.length=qs.length/\
  (∀(i:Nat) v q,vs[i]? =some v->qs[i]? =some q->Dp K H v q/\q.canLay0=true/\q.depth<=60/\∃x r,q= .tuple (.str x::r))/\(∀(i j:Nat) p q,qs[i]? =some p->qs[j]? =some q->ltQ p q=some (O.blt (key i) (key j)))/\
  ∀(l:Addr) (p:Array Nat),H l=none->KO.Pm vs.length p->KO.Up O key p vs.length->Q (.ref l) (ax H l (.lst (p.toList.map λi=>vs.getD i .aG)))) KQ:=by
 intro ds A ι H T R Q ra rs h k
 unfold KQ at h
 split at h
 .obtain⟨_,_,rfl,⟨_,rfl⟩,rfl⟩:=rs
  unfold yt at h
  split at h
  .rename_i ds e
   obtain⟨C,hd,O,key,E,q⟩:=h
   obtain⟨xs,F,t⟩:=ra.lst e
   have hl:=ao.length t
   refine⟨_,xs,ds.map toQ,O,λi=>key (ds.getD i .aG),rfl,aU.of F,ω,by simp[hl],λi v p c b=> ?_,λi j p U c b=> ?_,λl p G n g=> ?_⟩
   .rw[bM] at b
    cases f:ds[i]? with
    |none=>rw[f] at b;cases b
    |some d=>
     rw[f] at b
     cases b
     obtain⟨I,o,u⟩:=ao.get t f
     rw[c] at o
     cases o
     obtain⟨J,p2,L,M⟩:=hd d (cS f)
     exact⟨RV.dp _ _ J u,p2,L,M⟩
   .rw[bM] at c b
    cases f:ds[i]? with
    |none=>rw[f] at c;cases c
    |some d=>
     cases s:ds[j]? with
     |none=>rw[s] at b;cases b
     |some d'=>
      rw[f] at c
      rw[s] at b
      cases c
      cases b
      show ltQ (toQ d) (toQ d')=some (O.blt (key (ds.getD i .aG)) (key (ds.getD j .aG)))
      rw[fZ,fZ,f,s]
      exact E d (cS f) d' (cS s)
   .rw[<-hl] at n g
    have hz:=n.size
    have w:(p.toList.map λi=>ds.getD i .aG).Perm ds:=by
     have:=(Array.perm_iff_toList_perm.mp n).map λi=>ds.getD i D.aG
     rwa [SE] at this
    refine jE k ra (ds:=p.toList.map λi=>ds.getD i .aG) ?_ (q _ w ?_) G
    .refine ao.of_get θ λi d v c b=> ?_
     rw[bM] at c b
     cases ep:p.toList[i]? with
     |none=>rw[ep] at c;cases c
     |some m=>
      rw[ep] at c b
      have N:m<ds.length:=by
       have:=(Array.perm_iff_toList_perm.mp n).mem_iff.mp (cS ep)
       simpa using this
      have z:=a_ N
      obtain⟨I,o,u⟩:=ao.get t z
      have c:some (ds.getD m .aG)=some d:=c
      have b:some (xs.getD m .aG)=some v:=b
      rw[fZ,z] at c
      rw[fZ,o] at b
      cases c
      cases b
      exact u
    .rw[pairwise_map,List.pairwise_iff_getElem]
     intro i j hi B y
     have:=g i j (j_ y) (by simpa[hz] using B)
     unfold KO.kp at this
     have P:p.getD i 0=p.toList[i]:=by
      rw[nY,gV (by simpa using hi)]
      simp
     have S:p.getD j 0=p.toList[j]:=by
      rw[nY,gV (by simpa using B)]
      simp
     rw[P,S] at this
     exact this
  .exact h.elim
 .exact h.elim
theorem W_{A:Ar}{r:Nat}{ds:Bi}{R:DK}(O:KeyOrd)(key:D->O.α)(h:A[r]?=some (.lst ds))(c:ds.length<64)(hd:∀d∈ds,gO d=true/\(toQ d).canLay0=true/\(toQ d).depth<=60/\∃x r,toQ d=.tuple (.str x::r))
  (f:∀d∈ds,∀e∈ds,ltQ (toQ d) (toQ e)=some (O.blt (key d) (key e)))(k:∀es:Bi,es.Perm ds->es.Pairwise (λa b=>O.kle (key a) (key b))->R (.ref A.length) (A++[.lst es])):yt r A R:=by
 unfold yt;simp only[h];exact⟨c,hd,O,key,f,k⟩
noncomputable def rj(P Q:KeyOrd):KeyOrd where
 α:=P.α×Q.α
 blt a b:=P.blt a.1 b.1||(!P.blt b.1 a.1&&Q.blt a.2 b.2)
 irrefl a:=by simp[P.irrefl,Q.irrefl]
 trans a b c h1 h2:=by
  obtain⟨a1,a2⟩:=a
  obtain⟨b1,b2⟩:=b
  obtain⟨c1,c2⟩:=c
  simp only[or_eq_true,gE,not_eq_true'] at h1 h2 ⊢
  rcases h1 with h1|⟨h1,k1⟩
  .refine .inl ?_
   rcases h2 with h2|⟨h2,_⟩
   .exact P.trans _ _ _ h1 h2
   .exact KeyOrd.klt_of_klt_of_kle h1 h2
  .rcases h2 with h2|⟨h2,k2⟩
   .exact .inl (KeyOrd.klt_of_kle_of_klt h1 h2)
   .exact .inr ⟨p5 h1 h2,Q.trans _ _ _ k1 k2⟩
 negTrans a b c h:=by
  obtain⟨a1,a2⟩:=a
  obtain⟨b1,b2⟩:=b
  obtain⟨c1,c2⟩:=c
  simp only[or_eq_true,gE,not_eq_true'] at h ⊢
  rcases h with h|⟨h,k⟩
  .rcases P.negTrans _ b1 _ h with h|h
   .exact .inl (.inl h)
   .exact .inr (.inl h)
  .cases e1:P.blt a1 b1 with
   |true=>exact .inl (.inl rfl)
   |false=>
    cases e2:P.blt b1 c1 with
    |true=>exact .inr (.inl rfl)
    |false=>
     have x1:P.blt b1 a1=false:=p5 (O:=P) (a:=a1) (b:=c1) (c:=b1) h e2
     have x2:P.blt c1 b1=false:=p5 (O:=P) (a:=b1) (b:=a1) (c:=c1) e1 h
     rcases Q.negTrans _ b2 _ k with k|k
     .exact .inl (.inr ⟨x1,k⟩)
     .exact .inr (.inr ⟨x2,k⟩)
 total a b h1 h2:=by
  obtain⟨a1,a2⟩:=a
  obtain⟨b1,b2⟩:=b
  simp only[Bool.or_eq_false_iff] at h1 h2
  have e:=P.total _ _ h1.1 h2.1
  subst e
  simp only[P.irrefl,Bool.not_false,Bool.true_and,true_and] at h1 h2
  rw[Q.total _ _ h1 h2]
noncomputable def wF:KeyOrd where
 α:=Int
 blt a b:=decide (a<b)
 irrefl a:=θ
 trans a b c h1 h2:=by simp only[qa] at*;omega
 negTrans a b c h:=by simp only[qa] at*;omega
 total a b h1 h2:=by simp only[decide_eq_false_iff_not] at*;omega
abbrev gP:KeyOrd:=strKind.toKeyOrd
theorem KW{a b:Str}(h:a.cps.toList=b.cps.toList):a=b:=by
 cases a;cases b;simp at h;simpa using Array.toList_inj.mp (by simpa using h)
theorem Sj{a b:Str}{O:KeyOrd}{x y:O.α}{xs ys:Fm}(h:gx xs ys=some (O.blt x y)):ltQ (.tuple (.str a::xs)) (.tuple (.str b::ys))=some ((rj gP O).blt (a.cps.toList,x) (b.cps.toList,y)):=by
 rw[ltQ,gx];cases c:PyData.eqv (.str a) (.str b) with
 |true=>
  have e:a=b:=by simpa[PyData.eqv] using c
  subst e;show gx xs ys=_;rw[h];show some (O.blt x y)=some (gP.blt a.cps.toList a.cps.toList||(!gP.blt a.cps.toList a.cps.toList&&O.blt x y));have d:gP.blt a.cps.toList a.cps.toList=false:=gP.irrefl _;rw[d];simp
 |false=>
  have e:a≠b:=by
   intro z;subst z;simp[PyData.eqv] at c
  show ltQ (.str a) (.str b)=some (gP.blt a.cps.toList b.cps.toList||(!gP.blt b.cps.toList a.cps.toList&&O.blt x y));rw[ltQ];show some (gP.blt a.cps.toList b.cps.toList)=_;cases f:gP.blt a.cps.toList b.cps.toList with
  |true=>rfl
  |false=>
   cases g:gP.blt b.cps.toList a.cps.toList with
   |true=>rfl
   |false=>exact absurd (KW (gP.total _ _ f g)) e
theorem Sh{i j:Int}{O:KeyOrd}{x y:O.α}{xs ys:Fm}(h:gx xs ys=some (O.blt x y)):gx (.int i::xs) (.int j::ys)=some ((rj wF O).blt (i,x) (j,y)):=by
 rw[gx];show _=some (decide (i<j)||(!decide (j<i)&&O.blt x y));cases c:PyData.eqv (.int i) (.int j) with
 |true=>
  have e:i=j:=by simpa[PyData.eqv] using c
  subst e;show gx xs ys=_;rw[h];simp
 |false=>
  have e:i≠j:=by simpa[PyData.eqv] using c
  show ltQ (.int i) (.int j)=_;rw[ltQ];by_cases a:i<j
  .simp[a]
  .have b:j<i:=ω
   simp[a,b]
noncomputable def uU:KeyOrd where
 α:=Unit
 blt _ _:=false
 irrefl _:=rfl
 trans _ _ _ h _:=by cases h
 negTrans _ _ _ h:=by cases h
 total _ _ _ _:=rfl
abbrev κa:Str:="_law_script"
abbrev κb:Str:="by_place"
abbrev κc:Str:="_law_name"
abbrev κd:Str:="_law_hall_here"
abbrev κe:Str:="mobile"
abbrev κf:Str:="thing"
abbrev κg:Str:="_law_town"
abbrev κh:Str:="_law_mobile"
abbrev κi:Str:="_law_book"
abbrev κj:Str:="numbers"
abbrev κk:Str:="other"
abbrev κl:Str:="name"
abbrev κm:Str:="_law_found"
abbrev κn:Str:="_law_way"
abbrev κo:Str:="_law_one"
abbrev κp:Str:="steps"
abbrev κq:Str:="place"
abbrev κr:Str:="paths"
abbrev κs:Str:="fractions"
abbrev κt:Str:="_law_other"
abbrev κu:Str:="weights"
abbrev κv:Str:="way"
abbrev κw:Str:="_law_down"
abbrev κx:Str:="_law_books_here"
abbrev κy:Str:="hall"
abbrev κz:Str:="_law_k"
abbrev κA:Str:="_law_many"
abbrev κB:Str:="_law_what"
abbrev κC:Str:="share"
abbrev κD:Str:="right"
abbrev κE:Str:="_law_up"
theorem Si:gx [] []=some (uU.blt () ()):=rfl
noncomputable def IW:R2:=λx y H Q=>∃l k xs,x=.ref l/\y=.int k/\H l=some (.lst xs)/\0<=k/\k<2 ^ 20/\xs.length*k.toNat<=100000/\
 ∀p,H p=none->Q (.ref p) (ax H p (.lst (replicate k.toNat xs).flatten))
theorem I_{α:Type}:∀k:Nat,(replicate k ([]:List α)).flatten=[]
 |0=>rfl
 |k+1=>by simp[lE,I_ k]
theorem T9{X:Cx}:bI X (binaryOp .Mult) IW:=by
 intro ae s σ H x y v u Q I f g h;obtain⟨l,k,xs,rfl,rfl,i,h1,h2,hz,q⟩:=h;cases f;obtain⟨t,rfl⟩:=g;obtain⟨z,its,n,r,e⟩:=(show cg X.prog X.w H s.heap l (.lst xs) from I.ar l _ i);have hl:=r.length;have c:its.toArray.size*k.toNat<=100000:=by rw[bT,<-hl];exact hz
 have p:its.toArray.size*(if its.toArray.isEmpty=true then 0 else k.toNat)<=100000:=by split<;>omega
 have d:foldl (λj m=>j++m) #[] (replicate (if its.toArray.isEmpty=true then 0 else k.toNat) its.toArray)=(replicate k.toNat its).flatten.toArray:=by
  cases its with
  |nil=>
   rw[I_];rfl
  |cons a b=>
   have:=foldl_rep (a::b) k.toNat [];rw[d_] at this;exact this
 refine wpAny_binaryOp_repeat_ref (T:="list") (U:="int") δ ⟨_,e,rfl⟩ (λs'=>typeIs_int s' k t) noFill_list_mul PySem.F.fills_int_mul yR repeat_list PySem.F.slot_int_index.lookup
  (jq yR (typeIs_int s k t) PySem.F.entry_int_rmul (PySem.F.args_int_rmul_2 _ _) (int___rmul___int_list k t l its.toArray n)
   ⟨e,rfl,⟨_,e,rfl⟩,jq PySem.F.slot_list_mul ⟨_,e,rfl⟩ PySem.F.entry_list_mul (PySem.F.args_list_mul_2 _ _)
    (AutoListH.list___mul___list_int_3 l its.toArray n k t (by simp[Builtin.List.listFitsIndex];omega) ω (by simp only[Builtin.List.listTooLong,lG];simp;simp at c;omega)) ⟨e,?_⟩⟩)
 rw[d];refine⟨.ref s.heap.objs.size,_,I.laid (t':=s.toks) (o:=.lst (replicate k.toNat xs).flatten) (λb A q=>bu _ q) (aJ _) ?_,rfl,q _ (I.ar.fresh (aJ _))⟩;exact⟨by rw[len_rep,mul_comm];exact dF hz δ,_,0,r.rep k.toNat,cy _ rfl⟩
@[irreducible] def yi(r:Nat)(k:Int)(A:Ar)(R:DK):Prop:=match A[r]? with
 |some (.lst xs)=>0<=k/\k<2 ^ 20/\xs.length*k.toNat<=100000/\R (.ref A.length) (A++[.lst (replicate k.toNat xs).flatten])
 |_=>False
def yh:fj:=λx y A R=>match x,y with
 |.ref r,.int k=>yi r k A R
 |_,_=>False
theorem ao.append{mg:aA}{ι:Io}{H:Hp}{n:Nat}:∀{ds:Bi} {vs:Bn} {b:Bi} {a:Bn},ao mg ι n H ds vs->ao mg ι n H b a->ao mg ι n H (ds++b) (vs++a)
 |[],vs,b,a,h,h'=>by have h:vs=[]:=h;rw[h];exact h'
 |d::ds,vs,b,a,h,h'=>by
  obtain⟨v,r,rfl,h1,h2⟩:=h;exact⟨v,r++a,rfl,h1,ao.append h2 h'⟩
theorem ao.rep{mg:aA}{ι:Io}{H:Hp}{n:Nat}{ds:Bi}{vs:Bn}(h:ao mg ι n H ds vs):∀k:Nat,ao mg ι n H (replicate k ds).flatten (replicate k vs).flatten
 |0=>rfl
 |k+1=>by
  rw[lE,lE,sr,sr];exact ao.append h (ao.rep h k)
theorem NK{mg:aA}:eK mg IW yh:=by
 intro x y A ι H u v R Q ra b c h k;unfold yh at h;split at h
 .rename_i r i
  obtain⟨_,rfl⟩:=b;cases c;unfold yi at h;split at h
  .rename_i xs e
   obtain⟨d,f,a⟩:=ra.lst e;obtain⟨h1,h2,g,q⟩:=h;exact⟨_,i,d,rfl,rfl,f,h1,h2,by rw[<-ao.length a];exact g,λp j=>jE k ra (ao.rep a _) q j⟩
  .exact h.elim
 .exact h.elim
theorem VA{A:Ar}{r:Nat}{k:Int}{xs:Bi}{R:DK}(h:A[r]?=some (.lst xs))(h0:0<=k)(h1:k<2 ^ 20)(h2:xs.length*k.toNat<=100000)(q:R (.ref A.length) (A++[.lst (replicate k.toNat xs).flatten])):yi r k A R:=by
 unfold yi;simp only[h];exact⟨h0,h1,h2,q⟩
variable{N:En}
section
variable{a b:Expr}{ma mb:aO}{pos:Pos}
theorem NZ(c:PE X a (up X.mg N ma))(d:PE X b (up X.mg N mb)):PE X (.BinOp a .Mult b pos) (up X.mg N (br yh ma mb)):=oK T9 NK c d
end
section
variable{es:Dx}{env:Env}{p:Pos}
theorem kW{c i}:starEach (.Constant c i p::es) env=(false,eval (.Constant c i p) env)::starEach es env:=rfl
theorem WG{x}:starEach (.Name x p::es) env=(false,eval (.Name x p) env)::starEach es env:=rfl
end
def vn(X:Cx)(k n:Nat)(es:Dx)(Ss:List Ct):Prop:=∃vs:Bn,PA X es (λ_ H Q=>Q vs H)/\vs.length=Ss.length/\vs.length<=100/\∀(i:Nat) v S,vs[i]?=some v->Ss[i]?=some S->FnAt X k v (au X.mg n S)
section
variable{k n:Nat}
theorem Gi:vn X k n [] []:=⟨[],uA,rfl,δ,λi v S h=>by simp at h⟩
theorem we{x:Str}{ps:Ap}{S:Ct}{p:Pos}{es:Dx}{c:List Ct}(F:av X.prog X.w X.K X.mg X.base k x ps (au X.mg n S))(h:vn X k n es c)(hz:c.length<100)(d:Gl X x:=by rfl)(hd:(x==("__debug__":Str))=false:=by decide)
  (e:starEach (.Name x p::es) X.env=(false,eval (.Name x p) X.env)::starEach es X.env:=by exact WG):vn X k n (.Name x p::es) (S::c):=by
 obtain⟨f,fd,F,b,kp,g⟩:=F;obtain⟨vs,j,hl,l,a⟩:=h;refine⟨.ref f::vs,Ai (nB (BR (v:=.ref f) d g rfl hd) j e) λσ H Q q=>q,by simp[hl],by simp;omega,λi v m h1 h2=>?_⟩;cases i with
 |zero=>
  cases h1;cases h2;exact⟨f,fd,ps,rfl,F,b,kp⟩
 |succ i=>exact a i v m (by simpa using h1) (by simpa using h2)
noncomputable def Nk(n:Nat)(Ss:List Ct)(RE:DX)(mi:aO)(m:dg):aO:=λτ A R=>mi τ A λx A1=>match x with
 |.int i=>match cV Ss i with
  |some S=>m τ A1 λvs A2=>vs.length=n/\S vs A2 R RE
  |none=>False
 |_=>False
theorem Mq{α β:Type}{xs:List α}{ys:List β}{i:Int}{b:β}(hl:xs.length=ys.length)(h:cV ys i=some b):∃(j:Nat) (a:α),cV xs i=some a/\xs[j]?=some a/\ys[j]?=some b:=by
 unfold cV at h ⊢;rw[hl];cases e:j0 ys.length i with
 |none=>rw[e] at h;cases h
 |some j=>
  rw[e] at h;have h:ys[j]?=some b:=h;have c:j<ys.length:=(bP.mp h).1;exact⟨j,xs[j]' ω,by show xs[j]?=_;exact a_ ω,a_ ω,h⟩
theorem E9{N:En}{RE:DX}{es as:Dx}{d e:Expr}{l:List Ct}{O:aO}{m:dg}{s p2 pos:Pos}(hF:vn X k n es l)(hi:PE X d (up X.mg N O))(t:vz d)(y:dW k X.A)(Y:Passes (bU X.prog X.w) X (EL X.mg N RE))(Z:PA X (e::as) (fG X.mg N m))
  (hc:eval (.Call (.Subscript (.List es s) d p2) (e::as) [] pos) X.env=(do callWith pos (<-eval (.Subscript (.List es s) d p2) X.env) [] (backTo pos (starEach (e::as) X.env)) (backToKw pos (keywordEach [] X.env))):=by rfl)
  (he:starEach (e::as) X.env=(false,eval e X.env)::starEach as X.env:=by rfl)(B:(backTo pos (starEach as X.env)).any (·.1)=false:=by rfl):
  PE X (.Call (.Subscript (.List es s) d p2) (e::as) [] pos) (up X.mg N (Nk n l RE O m)):=by
 obtain⟨vs,hv,hl,D,f⟩:=hF
 refine dR (Uj (Ig G0 (Ih hv) hi t) y Y Z hc he B) λσ H Q q=> ?_
 obtain⟨A,ι,τ,R,S,q,k'⟩:=q
 refine⟨dF D δ,λp F=> ?_⟩
 have E:Ext A ι H A ι (ax H p (.lst vs)):=S.ra.qI F
 have P:RA X.mg ι (ax H p (.lst vs)) A:=S.ra.fix E λb o z=>by rw[aX (c_ z F)];exact z
 refine⟨A,ι,τ,_,S.next E P,q,λx T G H1 u a h r2 I=> ?_⟩
 match x,a,I with
 | .int i,a,I=>
  cases I
  have a:(match cV l i with|some S=>m τ T λvs J=>vs.length=n/\S vs J R RE|none=>False):=a
  split at a
  .rename_i S' eS
   obtain⟨j,v,h1,h2,h3⟩:=Mq hl eS
   have g:H1 p=some (.lst vs):=h.mo p _ d9 λr y z=>by
    obtain⟨o,U,_⟩:=E.im r y
    rw[z,F] at U
    cases U
   refine⟨p,vs,i,v,rfl,rfl,aU.of g,h1,_,f j v S' h2 h3,?_⟩
   refine⟨T,G,τ,_,(S.next E P).next h r2,a,λds J K H2 us V W r3 v2=> ?_⟩
   exact⟨J,K,ds,R,RE,V.1,r3,v2,V.2,(k'.from ((E.trans h).trans W)),λc A3 L H3 C q3 M e3 r4=>⟨c,A3,L,⟨C,rfl,M⟩,((S.ex.trans E).trans (h.trans W)).trans e3,r4,q3⟩⟩
  .exact a.elim
end
theorem qw(hc:X.calm=true):eG X (.type "list") (λxs H Q=>∃(d:Addr) (kvs:List (Key×V)) (ns:Ap),xs=[.ref d]/\H d=some (.dK kvs)/\kvs.map (·.1)=ns.map Sum.inr/\ns.length<=1000/\∀l:Addr,H l=none->Q (.ref l) (ax H l (.lst (ns.map V.str)))):=by
 intro ae s σ H xs R Q I r h;obtain⟨d,kvs,ns,rfl,hd,A,S,q⟩:=h;obtain⟨u,rfl,F⟩:=vals1 r;cases F;obtain⟨hz,G,vs,rel,dd⟩:=(show cg X.prog X.w H s.heap d (.dK kvs) from I.ar d _ hd);obtain⟨ep,j⟩:=dd.dictAt;have c:kvs.length=ns.length:=by
  have:=cB List.length A;simpa using this
 have e:vs.length=ns.length:=by rw[<-rel.len,c]
 have m:(1000:Nat)<=sizeLine:=δ
 refine PySem.W.kdl_call (kdl_dict (knd:=dD X.prog X.w) (kvs:=vs) (ep:=ep) G) (I.ok.hd hc) j (by rw[e];omega) λh' tk acc c' k1 J a=>?_;have n:StrsAre acc.toList ns:=by
  refine Cn (by rw[gA,a.1,e]) λi v x B K=>?_;rw[nG] at B;obtain⟨k,y,L,C⟩:=a.2 i v B;obtain⟨p,M,N,_⟩:=rel.at L;have D:(kvs.map (·.1))[i]?=some k:=by rw[bM,M];exact cB some N
  rw[A,bM,K] at D;have O:k=Sum.inr x:=(Option.some.inj D).symm;rw[O] at C;rcases jh (show kK (Sum.inr x) v=true from C) with⟨_,_,z,_⟩|⟨T,t,z,P⟩
  .cases z
  .cases z;exact⟨t,P⟩
 have f:H s.heap.objs.size=none:=I.ar.fresh (aJ _);refine⟨.ref s.heap.objs.size,ax H s.heap.objs.size (.lst (ns.map V.str)),?_,rfl,q _ f⟩;refine I.BB (t':=tk) k1 (jb.new f _) λb o g=>?_;by_cases E:b=s.heap.objs.size
 .subst E
  rw[d9] at g;cases g;refine .inr ⟨λu z=>fJ _ (aW z),?_⟩;refine⟨by rw[aQ];omega,acc.toList,c',yI n,?_⟩;rw[yS];exact J
 .rw[aX E] at g
  exact .inl g
@[irreducible] def wO(r:Nat)(A:Ar)(R:DK):Prop:=∃(kvs:List (Key×D)) (ns:Ap),A[r]?=some (.dct kvs)/\kvs.map (·.1)=ns.map Sum.inr/\ns.length<=1000/\R (.ref A.length) (A++[.lst (ns.map D.str)])
def wN:gX:=λvs A R=>match vs with
 |[.ref r]=>wO r A R
 |_=>False
theorem qU{A:Ar}{r:Nat}{kvs:List (Key×D)}{ns:Ap}{R:DK}(h:A[r]?=some (.dct kvs))(a:kvs.map (·.1)=ns.map Sum.inr)(b:ns.length<=1000)(k:R (.ref A.length) (A++[.lst (ns.map D.str)])):wO r A R:=by
 unfold wO;exact⟨kvs,ns,h,a,b,k⟩
theorem RK.G4{mg:aA}{ι:Io}{n:Nat}{H:Hp}:∀{ds:List (Key×D)} {vs:List (Key×V)},RK mg ι n H ds vs->vs.map (·.1)=ds.map (·.1)
 |[],vs,h=>by have h:vs=[]:=h;rw[h];rfl
 |p::ds,vs,h=>by
  obtain⟨x,r,rfl,h1,h2⟩:=h;simp[RK.G4 h2]
theorem ao.KZ{mg:aA}{ι:Io}{n:Nat}{H:Hp}:∀ns:Ap,ao mg ι n H (ns.map D.str) (ns.map V.str)
 |[]=>rfl
 |x::ns=>⟨_,_,rfl,rfl,ao.KZ ns⟩
theorem qA{mg:aA}:iz mg (λxs H Q=>∃(d:Addr) (kvs:List (Key×V)) (ns:Ap),xs=[.ref d]/\H d=some (.dK kvs)/\kvs.map (·.1)=ns.map Sum.inr/\ns.length<=1000/\∀l:Addr,H l=none->Q (.ref l) (ax H l (.lst (ns.map V.str)))) wN:=by
 intro ds A ι H f R Q ra rs h k;unfold wN at h;split at h
 .obtain⟨_,_,rfl,⟨_,rfl⟩,rfl⟩:=rs
  unfold wO at h;obtain⟨kvs,ns,h1,h2,a,b⟩:=h;obtain⟨xs,c,e⟩:=ra.dct h1;exact⟨_,xs,ns,rfl,c,by rw[RK.G4 e];exact h2,a,λl hl=>jE k ra (ao.KZ ns) b hl⟩
 .exact h.elim
section
variable{es:Dx}{m:YO}{me:aO}{e:Expr}{p pos:Pos}
noncomputable def Jf(i:Nat)(m:aO):cK:=λR τ A=>match lk τ i with
 |some (.int a)=>m τ A λy A1=>match y with
  |.int b=>R.nx (τ.set i (some (.int (a+b)))) A1
  |_=>False
 |_=>False
theorem Oh{i:Nat}{x:Str}{pos':Pos}(h:X.N.Nodup)(hi:X.N[i]?=some x)(j:Loc X.env.scope x)(l:PE X e (up X.mg N me))(m:X.fn x=true\/X.env.scope.names.lookup x=some .local:=by first|exact .inl rfl|exact .inr rfl|assumption):
  PS X (.AugAssign (.Name x pos') .Add e pos) (cQ X.mg N (Jf i me)):=je (U4 h hi j l Rb m) λQ σ H q=>by
 obtain⟨A,ι,τ,R,S,q,k⟩:=q;unfold Jf at q;cases c:lk τ i with
 |none=>rw[c] at q;exact q.elim
 |some d=>
  rw[c] at q;cases d with
  |int a=>
   obtain⟨v,h1,h2⟩:=S.rs.at' i _ c;cases h2;refine⟨.int a,h1,A,ι,τ,_,S,q,λy r n H1 u f g o p=>?_⟩;cases y with
   |int b=>
    cases p;exact⟨a,b,rfl,rfl,(k.nx.from g).here ((S.next g o).set (d:=.int (a+b)) (v:=.int (a+b)) rfl) f⟩
   |_=>exact f.elim
  |_=>exact q.elim
end
theorem boot_reversed:bootBuiltins "reversed"=some (.type "reversed"):=η
noncomputable def zw(K:Frag)(a:Addr)(n:Nat):It:=
 ⟨λi H=>∃xs,aU K H a xs/\xs.length=n/\i<n,λi H x H'=>H'=H/\∀xs,aU K H a xs->xs[n - 1 - i]?=some x,λi H=>n<=i⟩
theorem Ym{P:Program}{w:World}{K:Frag}{tg:Expr}(a it:Addr)(n:Nat):Turn P w K tg (zw K a n) [it] it (λi h=>PySem.Heap.IsRevIter h it a ((n:Int) - 1 - i)/\i<=n) where
 mem:=θ
 obj:=λi h st b g=>by
  have e:b=it:=by simpa using g
  subst e
  obtain⟨⟨o,e,c,d⟩,_⟩:=st
  exact⟨o,e,λv z=>by rw[d] at z;cases z⟩
 keep:=λi h h' st k=>⟨st.1.at λo e=>k it θ o e,st.2⟩
 item:=by
  intro X q r t hc i ae s σ H E I l st m
  subst q r t
  obtain⟨xs,C,S,hi⟩:=m
  obtain⟨its,F,p,hz⟩:=I.list C
  have D:xs[n - 1 - i]? =some (xs[n - 1 - i]' ω):=a_ ω
  obtain⟨u,G,J⟩:=F.get D
  obtain⟨f0,f1,f2,y,f4,A⟩:=l it θ
  have B:(n:Int) - 1 - i=((n - 1 - i:Nat):Int):=ω
  have f:=st.1
  rw[B] at f
  refine PySem.wpAny_pyNext_rev_item f p.isList (x:=u) (by simpa using G) λh' j L=> ?_
  have M:Inv X ae σ H {s with heap:=h'}:=I.turned (t':=s.toks) (λb o g e=>(L.2 b g).trans e) f0 f1 y f4 A
  obtain⟨o,e,c,d⟩:=id j
  refine⟨u,rfl,tH (s:={s with heap:=h'}) e c d δ ⟨_,H,M,J,⟨rfl,λys N=>by rw[I.Bs N C];exact D⟩,⟨?_,ω⟩,λb g=>(l b g).1⟩⟩
  have O:(n:Int) - 1 - ((i+1:Nat):Int)=((n - 1 - i:Nat):Int) - 1:=ω
  rw[O]
  exact j
 done:=by
  intro X q r t hc i ae s σ H E I l st m
  subst q r t
  have m:n<=i:=m
  obtain⟨f0,f1,f2,y,f4,A⟩:=l it θ
  obtain⟨f,Q⟩:=st
  have B:(n:Int) - 1 - i= -1:=ω
  rw[B] at f
  exact PySem.wpAny_pyNext_rev_end (I.ok.hd hc) f λh' R=>⟨rfl,I.turned (t':=s.toks) (λb o g e=>R b o g e) f0 f1 y f4 A⟩
 self:=λ_ _ _ _ _ st h=>PySem.wpAny_pyIter_revIter st.1 h
noncomputable def Q0(K:Frag)(ta:TA):TI:=λσ H R=>ta σ H λvs H1=>∃a xs,vs=[.ref a]/\aU K H1 a xs/\R (zw K a xs.length) H1
theorem UM{tg l:Expr}{ta:TA}{p pos:Pos}(f:Gl X "reversed")(g:X.mg "reversed"=none)(i:PA X [l] ta)(j:starEach [l] X.env=[(false,eval l X.env)]:=by rfl):
  PI X tg (.Call (.Name "reversed" p) [l] [] pos) (Q0 X.K ta):=by
 intro ae s σ H R I h;refine Call_ (jB I f g boot_reversed (mJ (aN (i pos ae s σ H _ I h) λw c ⟨vs,H1,d,k,m⟩=>?_) j rfl));obtain⟨a,xs,e,n,q⟩:=m;subst e;obtain⟨u,rfl,r⟩:=vals1 k;cases r;obtain⟨its,t,pl,hz⟩:=d.list n;have hl:=t.length;refine PySem.call_reversed_list pl.isList ?_;have st:PySem.Heap.IsRevIter (c.heap.push (PySem.revObj a ((its.toArray.size:Int) - 1))) c.heap.objs.size a ((xs.length:Int) - 1 - (0:Nat)):=by
  refine⟨_,cy _ rfl,rfl,?_⟩;have e:((its.toArray.size:Int) - 1)=((xs.length:Int) - 1 - (0:Nat)):=by simp;omega
  rw[<-e];rfl
 refine PySem.wpAny_pyIter_revIter st ⟨c.heap.objs.size,[c.heap.objs.size],_,_,H1,rfl,d.kept (t':=c.toks) λb o e=>bu _ e,Ym a _ _,⟨st,cA _⟩,λb v=>?_,q⟩;have e:b=c.heap.objs.size:=by simpa using v
 subst e;exact d.ng (aJ _) (d.ar.fresh (aJ _))
section
variable{mg:aA}{K:Frag}{A:Ar}{ι:Io}{H:Hp}
def iR(ds:Bi):Bi:=ds.zipIdx.map λp=>D.tup [.int ((p.2:Nat):Int),p.1]
theorem Ow{ds:Bi}{i:Nat}{d:D}(h:(iR ds)[i]?=some d):∃x,ds[i]?=some x/\d=.tup [.int ((i:Nat):Int),x]:=by
 unfold iR at h;rw[bM,C0] at h;cases e:ds[i]? with
 |none=>rw[e] at h;cases h
 |some x=>
  rw[e] at h;simp at h;exact⟨x,rfl,h.symm⟩
theorem Ro{q:Nat}{ds:Bi}(f:q<A.length):lQ mg A ι H (zp K (ι q)) (iR ds) (λA'=>A'[q]?=some (.lst ds)) where
 go:=λi d c a H1 hd e r hc=>by
  obtain⟨xs,h1,h2⟩:=r.lst hc;rw[e.ag q f] at h1;obtain⟨x,j,rfl⟩:=Ow hd;obtain⟨v,g,k⟩:=ao.get h2 j;refine⟨⟨xs,v,aU.of h1,g⟩,λy H' z=>?_⟩;obtain⟨p,m,h,rfl,rfl,l⟩:=z;have:=l xs (aU.of h1);rw[g] at this;cases this;have E:Ext c a H1 c a (ax H1 p (.tup [.int (i:Nat),v])):=r.qI h;exact⟨E,r.fix E λb o z=>by rw[aX (c_ z h)];exact z,p,[.int (i:Nat),v],rfl,d9,_,_,rfl,rfl,_,_,rfl,RV.ext E _ _ k,rfl⟩
 stop:=λc a H1 e r hc=>by
  obtain⟨xs,h1,h2⟩:=r.lst hc;rw[e.ag q f] at h1;exact⟨xs,aU.of h1,by rw[<-ao.length h2];simp[iR]⟩
theorem Rt{q:Nat}{ds:Bi}{n:Nat}(b:n=ds.length)(c:q<A.length):lQ mg A ι H (zw K (ι q) n) ds.reverse (λA'=>A'[q]?=some (.lst ds)) where
 go:=λi d f a H1 hd e r hc=>by
  obtain⟨xs,h1,h2⟩:=r.lst hc;rw[e.ag q c] at h1;have hl:=ao.length h2;have hi:=(bP.mp hd).1;rw[List.length_reverse] at hi;rw[List.getElem?_reverse hi] at hd;obtain⟨v,g,h⟩:=ao.get h2 hd;refine⟨⟨xs,aU.of h1,ω,ω⟩,λx H' y=>?_⟩;obtain⟨rfl,y⟩:=y;have:=y xs (aU.of h1);rw[b,g] at this;cases this;exact⟨r.refl,r,h⟩
 stop:=λf a H1 e r hc=>by
  show n<=ds.reverse.length;rw[List.length_reverse];omega
end
@[irreducible] def ni(f:Bi->Bi)(r:Nat)(A:Ar)(R:Bi->(Ar->Prop)->Ar->Prop):Prop:=match A[r]? with
 |some (.lst ds)=>R (f ds) (λA'=>A'[r]?=some (.lst ds)) A
 |_=>False
theorem Be{f:Bi->Bi}{r:Nat}{A:Ar}{ds:Bi}{R:Bi->(Ar->Prop)->Ar->Prop}(h:A[r]?=some (.lst ds))(k:R (f ds) (λA'=>A'[r]?=some (.lst ds)) A):ni f r A R:=by
 unfold ni;rw[h];exact k
def QX(n:dg):jr:=λτ A R=>n τ A λvs A1=>match vs with
 |[.ref r]=>ni iR r A1 R
 |_=>False
def Q3(n:dg):jr:=λτ A R=>n τ A λvs A1=>match vs with
 |[.ref r]=>ni List.reverse r A1 R
 |_=>False
section
variable{tg l:Expr}{n:dg}{p pos:Pos}
theorem Fp{elts:Dx}{k:Nat}{tpos:Pos}(g:X.mg "enumerate"=none)(h:PA X [l] (fG X.mg N n))(i:Gl X "enumerate":=by rfl)(j:starEach [l] X.env=[(false,eval l X.env)]:=by rfl):PI X (.Tuple elts k tpos) (.Call (.Name "enumerate" p) [l] [] pos) (j9 X.mg N (QX n)):=qD (UJ i g h boot_enumerate j) λσ H Q q=>by
 obtain⟨A,ι,τ,R,S,q,k⟩:=q;refine⟨A,ι,τ,_,S,q,λvs d b H1 s a m f c=>?_⟩;match vs,a,c with
 |[.ref r],a,c=>
  obtain⟨_,_,rfl,⟨o,rfl⟩,rfl⟩:=c;have a:ni iR r d R:=a;unfold ni at a;split at a
  .rename_i ds e
   obtain⟨xs,h1,h2⟩:=f.lst e;exact⟨_,xs,rfl,aU.of h1,k _ _ d b H1 _ a m f (Ro o)⟩
  .exact a.elim
theorem N9(g:X.mg "reversed"=none)(h:PA X [l] (fG X.mg N n))(i:Gl X "reversed":=by rfl)(j:starEach [l] X.env=[(false,eval l X.env)]:=by rfl):PI X tg (.Call (.Name "reversed" p) [l] [] pos) (j9 X.mg N (Q3 n)):=qD (UM i g h j) λσ H Q q=>by
 obtain⟨A,ι,τ,R,S,q,k⟩:=q;refine⟨A,ι,τ,_,S,q,λvs d b H1 s a m f c=>?_⟩;match vs,a,c with
 |[.ref r],a,c=>
  obtain⟨_,_,rfl,⟨o,rfl⟩,rfl⟩:=c;have a:ni List.reverse r d R:=a;unfold ni at a;split at a
  .rename_i ds e
   obtain⟨xs,h1,h2⟩:=f.lst e;exact⟨_,xs,rfl,aU.of h1,k _ _ d b H1 _ a m f (Rt (ao.length h2).symm o)⟩
  .exact a.elim
end
noncomputable def IY:V->Bn->Hp->VK->Prop:=λx vs H Q=>∃d o kvs more,x=.ref d/\vs=[.ref o]/\d≠o/\H d=some (.dK kvs)/\H o=some (.dK more)/\kvs.length+more.length<=1000/\Q .aG (ax H d (.dK (kP kvs more)))
theorem HB:mU X "dict.update" IY:=by
 intro ae s σ H x vs v y Q I i j h;obtain⟨d,o,kvs,a,rfl,rfl,b,hd,k,hz,q⟩:=h;cases i;obtain⟨u,rfl,l⟩:=j.one;cases l;obtain⟨z,m,c,k1,dd⟩:=vW I.ar hd;obtain⟨A,n,e,k2,f⟩:=vW I.ar k;have g:(1000:Nat)<=sizeLine:=δ
 have l1:=k1.length;have l2:=k2.length;have lm:=Bp a kvs;refine call_meetsIn slot_dict_update (dd.typeIs) PySem.F.entry_dict_update (PySem.F.args_dict_update_2 _ _) (PySem.meets_dict_update (dD X.prog X.w) d o b n) ?_;refine⟨c,e,dd,f,ω,λh' h1 h2 p=>?_⟩;have r:∃q,h'.get? d=some q:=let ⟨q,_,_,t,_⟩:=h1;⟨q,t⟩;exact⟨.aG,_,vQ I (by rw[hd];exact True.intro) p r (An ω m (k2.merge k1) h1),rfl,q⟩
theorem CmpOf.Xl{prog:Program}{w:World}{A:Around}{P:Nat->Value->Prop}(val:Nat->Str)(a:∀i v,P i v->∃t,v=.str (val i) t):
  CmpOf prog w A .Lt P (λi j=>decide ((val i).cps.toList<(val j).cps.toList)):=λi j b c s Q E hi d h=>by
 obtain⟨t,rfl⟩:=a i b hi;obtain⟨u,rfl⟩:=a j c d;exact PySem.P.lt_str h
theorem Ea(val:Nat->Str):∀k,argBest (λi j=>decide ((val i).cps.toList<(val j).cps.toList)) k<=k/\∀j,j<=k->¬(val j).cps.toList<(val (argBest (λi j=>decide ((val i).cps.toList<(val j).cps.toList)) k)).cps.toList
 |0=>⟨aJ _,λj c=>by
  have:j=0:=ω
  subst this;exact lJ _⟩
 |k+1=>by
  obtain⟨h1,h2⟩:=Ea val k;have e:argBest (λi j=>decide ((val i).cps.toList<(val j).cps.toList)) (k+1)=if decide ((val (k+1)).cps.toList<(val (argBest (λi j=>decide ((val i).cps.toList<(val j).cps.toList)) k)).cps.toList)=true then k+1 else argBest (λi j=>decide ((val i).cps.toList<(val j).cps.toList)) k:=rfl
  rw[e];split
  .rename_i h
   rw[qa] at h;refine⟨aJ _,λj c a=>?_⟩;by_cases b:j=k+1
   .subst b
    exact lJ _ a
   .exact h2 j ω (vc a h)
  .rename_i h
   rw[qa] at h;refine⟨ω,λj c=>?_⟩;by_cases b:j=k+1
   .subst b
    exact h
   .exact h2 j ω
theorem MJ(hc:X.calm=true):eG X (.builtin "min") (λxs H Q=>∃(d:Addr) (kvs:List (Key×V)) (ns:Ap),xs=[.ref d]/\Rd H d (.dK kvs)/\kvs.map (·.1)=ns.map Sum.inr/\ns≠[]/\∀m∈ns,(∀n∈ns,¬n.cps.toList<m.cps.toList)->Q (.str m) H):=by
 intro ae s σ H xs S Q I r h;obtain⟨d,kvs,ns,rfl,hd,C,p,q⟩:=h;obtain⟨u,rfl,E⟩:=vals1 r;cases E;have D:=uX.mpr p;obtain⟨hz,F,vs,rel,dd⟩:=oR I.ar hd;obtain⟨ep,a⟩:=dd.dictAt;have f:kvs.length=ns.length:=by
  have:=cB List.length C;simpa using this
 have G:vs.length=ns.length:=by rw[<-rel.length,f]
 have g:d<s.heap.objs.size:=by obtain⟨o,_,y,_⟩:=a;exact aW y
 have keys:∀i v,(∃k x,vs[i]?=some (k,x)/\(dD X.prog X.w).is k v=true)->∃t:Tok,v=.str (ns.getD i default) t:=λi v ⟨k,x,h1,h2⟩=>by
  have J:=rel.keys;have c:(vs.map (·.1))[i]?=some k:=by rw[bM,h1];rfl
  rw[<-J,C,bM] at c;cases e:ns[i]? with
  |none=>rw[e] at c;cases c
  |some n=>
   rw[e] at c;have c:k=Sum.inr n:=(Option.some.inj c).symm;subst c;rcases jh (show kK (Sum.inr n) v=true from h2) with⟨_,_,z,_⟩|⟨T,t,z,K⟩
   .cases z
   .cases z
    refine⟨t,?_⟩;rw[fZ,e];exact K
 refine call_min_walk ?_;refine wpAny_pyIter_dict (knd:=dD X.prog X.w) F a ⟨s.heap.objs.size,_,_,_,_,_,_,rfl,Walks.dictKeys (knd:=dD X.prog X.w) (A:=X.A.in1) (I.ok.hd hc) s.heap.objs.size d (bJ g) vs ep,⟨⟨_,cy _ rfl,rfl,rfl⟩,?_⟩,λb hb=>?_,ω,CmpOf.Xl (λi=>ns.getD i default) keys,λv h' tk L B=>?_⟩
 .obtain⟨o,es,y,r⟩:=a
  exact⟨o,es,bu _ y,r⟩
 .show b<(s.heap.push _).objs.size
  rw[pR];rcases bx.mp hb with e|hb
  .rw[e];exact kc _
  .rw[bS.mp hb];exact gm g
 .obtain⟨t,rfl⟩:=keys _ v L
  obtain⟨U,M⟩:=Ea (λi=>ns.getD i default) (vs.length - 1);have hi:argBest (λi j=>decide ((ns.getD i default).cps.toList<(ns.getD j default).cps.toList)) (vs.length - 1)<ns.length:=ω
  have l:ns.getD (argBest (λi j=>decide ((ns.getD i default).cps.toList<(ns.getD j default).cps.toList)) (vs.length - 1)) default∈ns:=by
   rw[fZ,a_ hi];exact lu hi
  have N:=q _ l λn O=>by
   obtain⟨j,P,e⟩:=jm O;have:=M j ω;rw[fZ,a_ P] at this;rw[<-e];exact this
  exact⟨.str _,H,I.kept λb o e=>B b o (λz=>by
   have R:b=s.heap.objs.size:=by simpa using z
   exact absurd (aW e) (by rw[R];exact fJ _)) (bu _ e),⟨_,rfl⟩,N⟩
noncomputable def Nd(mk mv:aO):aO:=λτ A R=>mk τ A λk A1=>mv τ A1 λv A2=>match gw k with
 |some ky=>R (.ref A2.length) (A2++[.dct [(ky,v)]])
 |none=>False
theorem E7{X:Cx}{N:En}{pos:Pos}{k v:Expr}{mk F:aO}(O:PE X k (up X.mg N mk))(P:PE X v (up X.mg N F)):PE X (.Dict [some k] [v] pos) (up X.mg N (Nd mk F)):=
 dR (Us (U0 O P U1) rfl rfl θ (δ:1<=15)) λσ H Q q=>by
  obtain⟨A,ι,τ,R,S,q,T⟩:=q;intro p n;have E0:=S.ra.qI (o:=.dK []) n;have G:eB X.mg N A ι τ σ (ax H p (.dK [])):=S.next E0 (S.ra.fix E0 λb o z=>by rw[aX (c_ z n)];exact z);have off:∀r,r<A.length->ι r≠p:=λr g z=>by
   obtain⟨o,h1,_⟩:=S.ra.im r g;rw[z,n] at h1;cases h1
  refine⟨A,ι,τ,_,G,q,λI U B H1 x V J W Y=>?_⟩;refine⟨U,B,τ,_,G.next J W,V,λw a i H2 y t Z K v2=>?_⟩;have d:=J.trans Z;have L:H2 p=some (.dK []):=d.mo p _ d9 off;have f:∀r,r<a.length->i r≠p:=λr g z=>by
   by_cases hl:r<A.length
   .rw[d.ag r hl] at z;exact off r hl z
   .have:=d.nw r ω g
    rw[z,d9] at this;cases this
  have t:(match gw I with|some l=>R (.ref a.length) (a++[.dct [(l,w)]])|none=>False):=t;cases D:gw I with
  |none=>rw[D] at t;exact t.elim
  |some l=>
  rw[D] at t;have ex:x=kV l:=o5 D Y;subst ex;refine⟨L,[(l,y)],rfl,(δ:1<=15),?_⟩;have em:kP [] [(l,y)]=[(l,y)]:=rfl;rw[em];obtain⟨j,e,at2⟩:∃j:Io,(∀r,r<a.length->j r=i r)/\j a.length=p:=⟨λr=>if r=a.length then p else i r,λr h=>by
   show(if r=a.length then p else i r)=i r;rw[ay ω],by
   show(if a.length=a.length then p else i a.length)=p;rw[aC rfl]⟩
  have M:∀b o,jD o=false->H2 b=some o->ax H2 p (.dK [(l,y)]) b=some o:=λb o m z=>by
   rw[aX]
   .exact z
   .rintro rfl
    rw[L] at z;cases z;cases m
  refine T (.ref a.length) (a++[.dct [(l,w)]]) j _ _ t ⟨?_,λr h=>?_,S.ra.im,λb o h hn=>?_,λr h1 h2=>?_,λb o h=>?_⟩ ⟨λr c h=>?_,λr s g hs h=>?_⟩ ⟨θ,by rw[at2]⟩
  .have:=d.len;simp;omega
  .rw[e r (cY h d.len)];exact d.ag r h
  .have u:b≠p:=c_ h n
   rw[aX u];exact d.mo b o (by rw[aX u];exact h) hn
  .by_cases g:r<a.length
   .rw[e r g]
    have:=d.nw r h1 g;rw[aX (f r g)] at this;exact this
   .have:r=a.length:=by simp at h2;omega
    subst this;rw[at2];exact n
  .have u:b≠p:=c_ h n
   obtain⟨o',h'⟩:=d.al b o (by rw[aX u];exact h);exact⟨o',by rw[aX u];exact h'⟩
  .by_cases g:r<a.length
   .rw[gW g] at h
    have:=CO.ag (n':=(a++[C.dct [(l,w)]]).length) (ι':=j) (H':=ax H2 p (.dK [(l,y)])) θ e M (λo z=>by rw[aX (f r g)];exact z) c (K.iP r c h);rw[e r g];exact this
   .have E:r=a.length:=by
     have:=(bP.mp h).1;simp at this;omega
    subst E;simp at h;subst h;rw[at2];exact⟨_,d9,y,[],rfl,RV.ag θ e M w y v2,rfl⟩
  .simp at g hs
   by_cases h1:r=a.length
   .by_cases h2:s=a.length
    .rw[h1,h2]
    .subst h1
     rw[at2,e s ω] at h;exact absurd h.symm (f s ω)
   .by_cases h2:s=a.length
    .subst h2
     rw[at2,e r ω] at h;exact absurd h (f r ω)
    .rw[e r ω,e s ω] at h
     exact K.inj r s ω ω h
def wJ(A:Ar):D->Bool
 |.ref r=>match A[r]? with
  |some (.dct _)=>true
  |_=>false
 |_=>false
def ET(f:ja)(mo:aO)(m:dg):aO:=λτ A R=>mo τ A λx A1=>wJ A1 x=true/\m τ A1 λvs A2=>f x vs A2 R
theorem GW{A:Ar}{r:Nat}{kvs:List (Key×D)}(h:A[r]?=some (.dct kvs)):wJ A (.ref r)=true:=by unfold wJ;simp only[h]
section
variable{e o:Expr}{es:Dx}{mo:aO}{m:dg}{apos cpos:Pos}{f:ja}{r:V->Bn->Hp->VK->Prop}{name:Str}{id:String}
theorem E8(w:PlainAttrs "dict")(slot:Slot "dict" name id)(h:typeOf (.builtin id)=pure (.type "method_descriptor"))(y:zx X id r)(hd:kD X.mg X.K "dict" r f)(z:PE X o (up X.mg N mo))(B:PA X (e::es) (fG X.mg N m))
  (b:attributeBase o name X.env (eval o X.env)=eval o X.env:=by rfl)
  (d:((backTo cpos (starEach (e::es) X.env)).all (λx=> !x.1)&&(backToKw cpos (keywordEach [] X.env)).all (λx=>x.1.isSome)
   &&decide ((e::es).length+([]:FC).length+(if ([]:FC).isEmpty then 0 else 1)<30))=true:=by rfl)
  (c:(apos.endLine==cpos.line)=true:=by rfl)(C:starEach (e::es) X.env=(false,eval e X.env)::starEach es X.env:=by rfl)(a:(backTo cpos (starEach es X.env)).any (·.1)=false:=by rfl):
  PE X (.Call (.Attribute o name apos) (e::es) [] cpos) (up X.mg N (ET f mo m)):=dR (Ie w slot h y z B b d c C a) λσ H Q q=>by
 obtain⟨A,ι,τ,R,S,q,k⟩:=q
 refine⟨A,ι,τ,_,S,q,λx D i H1 u j p s t=> ?_⟩
 obtain⟨g,j⟩:=j
 refine⟨?_,D,i,τ,_,S.next p s,j,λys E l H2 n F v G v2=> ?_⟩
 .cases x with
  |ref q=>
   obtain⟨_,rfl⟩:=t
   unfold wJ at g
   simp only at g
   split at g
   .rename_i kvs I
    obtain⟨n,h1,_⟩:=s.dct I
    exact .inr (.inr (.inl ⟨rfl,.inl ⟨n,h1⟩⟩))
   .cases g
  |_=>cases g
 .exact hd x ys E l H2 _ n R Q G (RV.ext v x u t) v2 F (k.from (p.trans v))
end
def kQ(kvs more:List (Key×D)):List (Key×D):=more.foldl (λacc p=>cP acc p.1 p.2) kvs
@[irreducible] def yG(r q:Nat)(A:Ar)(R:DK):Prop:=match A[r]?,A[q]? with
 |some (.dct kvs),some (.dct more)=>r≠q/\kvs.length+more.length<=1000/\R .aG (A.set r (.dct (kQ kvs more)))
 |_,_=>False
theorem Lh{A:Ar}{r q:Nat}{kvs a:List (Key×D)}{R:DK}(h1:A[r]?=some (.dct kvs))(h2:A[q]?=some (.dct a))(b:r≠q)(hz:kvs.length+a.length<=1000)(k:R .aG (A.set r (.dct (kQ kvs a)))):yG r q A R:=by
 unfold yG;simp only[h1,h2];exact⟨b,hz,k⟩
def CJ:ja:=λx vs A R=>match x,vs with
 |.ref r,[.ref q]=>yG r q A R
 |_,_=>False
theorem E5{mg:aA}{K:Frag}:kD mg K "dict" IY CJ:=by
 intro x ds A ι H u s R Q ra j rs h k;unfold CJ at h;split at h
 .rename_i r q
  obtain⟨e,rfl⟩:=j;obtain⟨_,_,rfl,⟨l,rfl⟩,rfl⟩:=rs;unfold yG at h;split at h
  .rename_i kvs a f m
   obtain⟨b,hz,h⟩:=h;obtain⟨xs,h1,g⟩:=ra.dct f;obtain⟨ys,h2,i⟩:=ra.dct m;have l1:=RK.length g;have l2:=RK.length i;refine⟨_,_,xs,ys,rfl,rfl,λz=>b (ra.inj r q e l z),h1,h2,ω,?_⟩;have E:=ra.oU (o:=.dK (kP xs ys)) (c:=.dct (kQ kvs a)) e;have n:RK mg ι A.length H (kQ kvs a) (kP xs ys):=RK.fold i g;obtain⟨d,p⟩:=ra.put (c':=.dct (kQ kvs a)) (o:=.dK (kP xs ys)) f h1 rfl ⟨_,d9,by simpa using RK.ext E _ _ n⟩;exact k _ _ ι _ _ h p d rfl
  .exact h.elim
 .exact h.elim
@[irreducible] def wY(r:Nat)(A:Ar)(R:DK):Prop:=∃(kvs:List (Key×D)) (ns:Ap),(A[r]?=some (.dct kvs)\/∃o,A[r]?=some (.bV o kvs))/\kvs.map (·.1)=ns.map Sum.inr/\ns≠[]/\∀m∈ns,(∀n∈ns,¬n.cps.toList<m.cps.toList)->R (.str m) A
def Hx:gX:=λvs A R=>match vs with
 |[.ref r]=>wY r A R
 |_=>False
theorem SI{A:Ar}{r:Nat}{kvs:List (Key×D)}{ns:Ap}{R:DK}(h:A[r]?=some (.dct kvs)\/∃o,A[r]?=some (.bV o kvs))(b:kvs.map (·.1)=ns.map Sum.inr)(a:ns≠[])(k:∀m∈ns,(∀n∈ns,¬n.cps.toList<m.cps.toList)->R (.str m) A):wY r A R:=by
 unfold wY;exact⟨kvs,ns,h,b,a,k⟩
theorem NG{mg:aA}:iz mg (λxs H Q=>∃(d:Addr) (kvs:List (Key×V)) (ns:Ap),xs=[.ref d]/\Rd H d (.dK kvs)/\kvs.map (·.1)=ns.map Sum.inr/\ns≠[]/\∀m∈ns,(∀n∈ns,¬n.cps.toList<m.cps.toList)->Q (.str m) H) Hx:=by
 intro ds A ι H i R Q ra rs h k;unfold Hx at h;split at h
 .obtain⟨_,_,rfl,⟨_,rfl⟩,rfl⟩:=rs
  unfold wY at h;obtain⟨kvs,ns,h1,h2,f,g⟩:=h;rcases h1 with h1|⟨o,h1⟩
  .obtain⟨xs,b,c⟩:=ra.dct h1
   exact⟨_,xs,ns,rfl,.inl b,by rw[RK.qK c];exact h2,f,λm e a=>k.here ra (g m e a) rfl⟩
  .obtain⟨xs,b,c⟩:=ra.bV h1
   exact⟨_,xs,ns,rfl,.inr ⟨o,b⟩,by rw[RK.qK c];exact h2,f,λm e a=>k.here ra (g m e a) rfl⟩
 .exact h.elim
@[irreducible] def tP(neg:Bool)(x:D)(r:Nat)(A:Ar)(R:DK):Prop:=∃(kvs:List (Key×D)) (k:Key),(A[r]?=some (.dct kvs)\/∃o,A[r]?=some (.bV o kvs))/\gw x=some k/\R (.bl (if neg then !(bF kvs k).isSome else (bF kvs k).isSome)) A
def wD(neg:Bool):fj:=λx y A R=>match y with
 |.ref r=>tP neg x r A R
 |_=>False
theorem GR{neg:Bool}{x:D}{r:Nat}{A:Ar}{R:DK}{kvs:List (Key×D)}{k:Key}(h:A[r]?=some (.dct kvs)\/∃o,A[r]?=some (.bV o kvs))(a:gw x=some k)(q:R (.bl (if neg then !(bF kvs k).isSome else (bF kvs k).isSome)) A):tP neg x r A R:=by
 unfold tP;exact⟨kvs,k,h,a,q⟩
theorem EY{mg:aA}(neg:Bool):eK mg (uF neg) (wD neg):=by
 intro x y A ι H u v R Q ra g i h k;unfold wD at h;split at h
 .rename_i f
  obtain⟨_,rfl⟩:=i;unfold tP at h;obtain⟨kvs,b,h1,j,h2⟩:=h;have ex:=o5 j g;subst ex;have fin:∀a,RK mg ι A.length H kvs a->Rd H (ι f) (.dK a)->uF neg (kV b) (.ref (ι f)) H Q:=λa c l=>by
   obtain⟨m,n⟩:=RK.get (k:=b) c;refine⟨_,fQ a b,rfl,.inl ⟨a,b,l,rfl,rfl⟩,?_⟩;have p:(fQ a b).isSome=(bF kvs b).isSome:=by
    cases q:bF kvs b with
    |none=>rw[n q];rfl
    |some d=>obtain⟨z,hz,_⟩:=m d q;rw[hz];rfl
   rw[p];exact k.here ra h2 rfl
  rcases h1 with h1|⟨o,h1⟩
  .obtain⟨a,e,c⟩:=ra.dct h1
   exact fin a c (.inl e)
  .obtain⟨a,e,c⟩:=ra.bV h1
   exact fin a c (.inr ⟨o,e⟩)
 .exact h.elim
section
variable{pos:Pos}{a b:Expr}{ma mb:aO}
theorem FG(c:X.A.units+64<cLine)(d:PE X a (up X.mg N ma))(e:PE X b (up X.mg N mb))(f:behindInMarks .In b=false:=by rfl):PE X (.Compare a [.In] [b] pos) (up X.mg N (br (wD false) ma mb)):=sZ (BI c) (EY false) d e f
theorem X3(c:X.A.units+64<cLine)(d:PE X a (up X.mg N ma))(e:PE X b (up X.mg N mb))(f:behindInMarks .In b=false:=by rfl):PT X (.Compare a [.In] [b] pos) (dU X.mg N (fU (br (wD false) ma mb))):=m_ (BI c) (EY false) d e f
end
noncomputable def ER(m:aO):aO:=λτ A R=>(∃r kvs,A[r]?=some (.dct kvs)/\∀o,m τ (A.set r (.bV o kvs)) λx A2=>K8 r o A2 (R x))\/m τ A R
noncomputable def VR(m:cK):cK:=λR τ A=>(∃r kvs,A[r]?=some (.dct kvs)/\∀o,m {nx:=λbX A2=>K8 r o A2 (R.nx bX),rt:=λ_ _=>False} τ (A.set r (.bV o kvs)))\/m R τ A
section
variable{e:Expr}{m:aO}
theorem Al(g:PE X e (up X.mg N m)):PE X e (up X.mg N (ER m)):=by
 intro ae s σ H Q I q;obtain⟨A,ι,τ,R,S,q,k⟩:=q;rcases q with⟨r,kvs,a,q⟩|q
 .obtain⟨xs,h1,h2⟩:=S.ra.dct a
  have hl:=(bP.mp a).1;obtain⟨n,o,p⟩:=I.fz h1;obtain⟨t,w⟩:=Gk (o:=o) S a h1 h2;refine aN (g ae s σ _ (λu H'=>∃xs,H' (ι r)=some (.bZ o (.dK xs))/\Q u (ax H' (ι r) (.dK xs))) p ⟨_,ι,τ,_,t,q o,λv A' ι' H' u b h x v2=>?_⟩) λv s' ⟨u,H',y,z,B,h',C⟩=>⟨u,_,y.Lb h' n,z,C⟩;obtain⟨i,c,b⟩:=b;have D:ι' r=ι r:=h.ag r (by simpa using hl);obtain⟨d,j,l,f⟩:=Gj x c;rw[D] at j l f;exact⟨d,j,k v _ ι' _ u b ((w.trans h).trans f) l (RV.ext f v u v2)⟩
 .exact g ae s σ H Q I ⟨A,ι,τ,R,S,q,k⟩
theorem Oi{st:Stmt}{ms:cK}(f:PS X st (cQ X.mg N ms)):PS X st (cQ X.mg N (VR ms)):=by
 intro ae s σ H Q I q;obtain⟨A,ι,τ,R,S,q,k⟩:=q;rcases q with⟨r,kvs,a,q⟩|q
 .obtain⟨xs,h1,h2⟩:=S.ra.dct a
  have hl:=(bP.mp a).1;obtain⟨m,o,n⟩:=I.fz h1;obtain⟨p,t⟩:=Gk (o:=o) S a h1 h2;refine aN (f ae s σ _ {nx:=λσ' H'=>∃xs,H' (ι r)=some (.bZ o (.dK xs))/\Q.nx σ' (ax H' (ι r) (.dK xs)),rt:=λ_ _=>False,bk:=λ_ _=>False,ct:=λ_ _=>False} n ⟨_,ι,τ,_,p,q o,⟨λbX A' ι' σ' H' b g v w=>?_,λ_ _ _ _ _ z=>z.elim,λ_ _ _ _ _ z=>z.elim,λ_ _ _ _ _ z=>z.elim⟩⟩) λfl s' h=>?_
  .obtain⟨i,c,b⟩:=b
   have x:ι' r=ι r:=g.ag r (by simpa using hl);obtain⟨d,j,l,e⟩:=Gj v c;rw[x] at j l e;exact⟨d,j,k.nx bX _ ι' σ' _ b ((t.trans g).trans e) l (w.ext e)⟩
  .cases fl with
   |next=>
    obtain⟨σ',H',y,B,h',C⟩:=h;exact⟨σ',_,y.Lb h' m,C⟩
   |brk=>obtain⟨_,_,_,z⟩:=h;exact z.elim
   |cont=>obtain⟨_,_,_,z⟩:=h;exact z.elim
   |ret u=>obtain⟨_,_,_,_,_,z⟩:=h;exact z.elim
 .exact f ae s σ H Q I ⟨A,ι,τ,R,S,q,k⟩
end
noncomputable def yj:fj:=λx y A R=>match x,y with
 |.tup xs,.int k=>xs≠[]/\2<=k/\k<2 ^ 20/\xs.length*k.toNat<=sizeLine/\R (.tup (replicate k.toNat xs).flatten) A
 |_,_=>False
theorem NL{mg:aA}:eK mg IX yj:=by
 intro x y A ι H u v R Q ra b c h k;unfold yj at h;split at h
 .rename_i ds i
  obtain⟨a,xs,rfl,e,r⟩:=b;cases c;obtain⟨h0,h1,h2,d,q⟩:=h;have hl:=ao.length r;refine⟨a,i,xs,rfl,rfl,e,?_,h1,h2,by rw[<-hl];exact d,λp f=>qV k ra (ao.rep r _) q f⟩;intro z;rw[z] at hl;exact h0 (List.length_eq_zero_iff.mp hl)
 .exact h.elim
section
variable{a b:Expr}{ma mb:aO}{pos:Pos}
theorem N1(c:PE X a (up X.mg N ma))(d:PE X b (up X.mg N mb)):PE X (.BinOp a .Mult b pos) (up X.mg N (br yj ma mb)):=oK T_ NL c d
end
noncomputable def II:V->Bn->Hp->VK->Prop:=λx vs H Q=>∃l b xs zs,x=.ref l/\vs=[.ref b]/\H l=some (.lst xs)/\H b=some (.tup zs)/\xs.length+zs.length<=sizeLine/\Q .aG (ax H l (.lst (xs++zs)))
theorem SW:mU X "list.extend" II:=by
 intro ae s σ H x vs v p Q I g i h;obtain⟨l,b,xs,zs,rfl,rfl,d,j,hz,q⟩:=h;cases g;obtain⟨u,rfl,k⟩:=i.one;cases k;obtain⟨z,its,n,r,hl,e⟩:=I.kM d;obtain⟨a,n2,f,m,_⟩:=I.CF j;have o:=f.length;have hsz:its.toArray.size+a.toArray.size<=sizeLine:=by rw[bT,bT];omega
 have c:¬(!its.toArray.isEmpty&&Builtin.List.listTooLong (its.toArray.size+a.toArray.size))=true:=by
  rw[HN hsz,Bool.and_false];exact cF
 refine jq pT ⟨_,e,rfl⟩ PySem.F.entry_list_extend (PySem.F.args_list_extend_2 _ _)
  (AutoSeq1.list_extend_list_tuple_0 l its.toArray n b a.toArray n2 c (by rw[bT];omega) ω) ⟨e,m,?_⟩
 refine⟨.aG,_,I.wQ (its':=its++a) d e θ (r.append f) ?_,rfl,q⟩;rw[dZ];omega
@[irreducible] def v_(r:Nat)(ys:Bi)(A:Ar)(R:DK):Prop:=match A[r]? with
 |some (.lst xs)=>xs.length+ys.length<=sizeLine/\R .aG (A.set r (.lst (xs++ys)))
 |_=>False
def F0:ja:=λx vs A R=>match x,vs with
 |.ref r,[.tup ys]=>v_ r ys A R
 |_,_=>False
theorem Nt{mg:aA}{K:Frag}:kD mg K "list" II F0:=by
 intro x ds A ι H u g R Q ra d rs h k;unfold F0 at h;split at h
 .obtain⟨_,rfl⟩:=d
  obtain⟨v,_,rfl,⟨a,zs,rfl,f,b⟩,rfl⟩:=rs;unfold v_ at h;split at h
  .rename_i xs e
   obtain⟨ws,h1,c⟩:=ra.lst e;exact⟨_,_,ws,zs,rfl,rfl,h1,f,by rw[<-ao.length c,<-ao.length b];exact h.1,B0 k ra e h1 (c.app b) h.2 λ_=>rfl⟩
  .exact h.elim
 .exact h.elim
theorem OI{A:Ar}{r:Nat}{xs ys:Bi}{R:DK}(h:A[r]?=some (.lst xs))(hz:xs.length+ys.length<=sizeLine)(k:R .aG (A.set r (.lst (xs++ys)))):v_ r ys A R:=by
 unfold v_;simp only[h];exact⟨hz,k⟩
end L2
end
namespace L2
theorem bC{N P:List PySem.Str}{sc:PySem.Scope}(kind:sc.kind=.function:=by rfl)(co:sc.isCoroutine=false:=by rfl)(gen:sc.isGenerator=false:=by rfl)(nd:N.Nodup:=by decide+kernel)(pre:N.take P.length=P:=by rfl)
 (par:∀x∈P,sc.names.lookup x=some .local\/sc.names.lookup x=some .cell:=by decide+kernel)(BG:∀y∈sc.names,y.2≠ .free:=by decide+kernel):bq N P sc:=⟨kind,co,gen,nd,pre,par,BG⟩
end L2
section
open PySem PySem.Spec PyProof.Rows
namespace L2
variable{X:Cx}
variable{N:En}
section
variable{pos pos':Pos}{e a b:Expr}{m ma mb:aO}{x:Str}(i:Nat)
theorem dS(a:X.N.Nodup)(b:PE X e (up X.mg N m))(hi:X.N[i]?=some x:=by rfl)(c:Loc X.env.scope x:=by first|exact .inl rfl|exact .inr rfl)(d:swapsWith e (some (.Name x pos')) pos.line X.env=pure false:=by rfl)(f:X.fn x=true\/X.env.scope.names.lookup x=some .local:=by first|exact .inl rfl|exact .inr rfl|assumption):
 PS X (.Assign [.Name x pos'] e pos) (cQ X.mg N (iK i m)):=Oj a hi c b d f
theorem dG(a:X.N.Nodup)(hi:X.N[i]?=some x:=by rfl)(b:Loc X.env.scope x:=by first|exact .inl rfl|exact .inr rfl)(c:X.fn x=true\/X.env.scope.names.lookup x=some .local:=by first|exact .inl rfl|exact .inr rfl|assumption):PG X (.Name x pos) (pP X.mg N (gN i)):=N8 a hi b c
theorem pG(a:X.N.Nodup)(hi:X.N[i]?=some x:=by rfl)(b:Loc X.env.scope x:=by first|exact .inl rfl|exact .inr rfl)(c:X.fn x=true\/X.env.scope.names.lookup x=some .local:=by first|exact .inl rfl|exact .inr rfl|assumption):PG X (.Name x pos) (qL i):=Ij a hi b c
end
section
variable{pos p:Pos}{e a b:Expr}{ma mb:aO}{x:Str}{es:Dx}{k r n:Nat}{ps:Ap}{S:Ct}{RE:DX}{m:dg}
theorem dX(c:X.A.units+64<cLine)(d:PE X a (up X.mg N ma))(e:PE X b (up X.mg N mb))(f:vz b:=by exact λ_ _=>rfl):PE X (.Subscript a b pos) (up X.mg N (br eZ ma mb)):=NW c d e f
theorem dL(F:av X.prog X.w X.K X.mg X.base k x ps (au X.mg n S))(c:dW r X.A)(d:Passes (bU X.prog X.w) X (EL X.mg N RE))(f:PA X (e::es) (fG X.mg N m))(g:k<=r:=by omega)(h:Gl X x:=by rfl)(a:(x==("__debug__":Str))=false:=by decide)
 (i:starEach (e::es) X.env=(false,eval e X.env)::starEach es X.env:=by rfl)(b:(backTo pos (starEach es X.env)).any (·.1)=false:=by rfl):
 PE X (.Call (.Name x p) (e::es) [] pos) (up X.mg N (iC n S RE m)):=NR F (c.mono g) d f h a i b
end
theorem bW{P:Program}{w:World}{K:Frag}{mg:aA}{base:Heap}{x:Str}{st:Stmt}{Nm ps:Ap}{k n:Nat}{S:Ct}(T:TopD K mg x st ps)(Sc:bq Nm ps (aK st))
  (b:∀{N:En} {RE:DX} {f:Addr} {a:Value} {B:Around} {outer:Fh} {s:Shared} {H:Hp} {E:XK},dW k (cR (bU P w) P w K mg base Nm x (aK st) f a B outer s H E).A->
   Raises (cR (bU P w) P w K mg base Nm x (aK st) f a B outer s H E) (EL mg N RE)->Passes (bU P w) (cR (bU P w) P w K mg base Nm x (aK st) f a B outer s H E) (EL mg N RE)->
   (cR (bU P w) P w K mg base Nm x (aK st) f a B outer s H E).A.units+64<cLine->Nm.Nodup->
   ∃m,dw (cR (bU P w) P w K mg base Nm x (aK st) f a B outer s H E) (ig st) (cQ mg N m)/\∀ds A R,S ds A R RE->ds.length=n->m {nx:=λ_ A'=>R .aG A',rt:=R} (j7 (Nm.length - n) ds) A)(d:ps.length=n:=by rfl)(e:ps.length<=Nm.length:=by decide):av P w K mg base (k+1) x ps (au mg n S):=
 jf T Sc d e λN RE f a B outer s H E c g i ds A R h hl=>by
  obtain⟨m,h1,h2⟩:=b c g i c.units Sc.nd;exact⟨m,h1,h2 ds A R h hl⟩
open MA
structure ql(x:Rat):Prop where
 pos:0<x
 num:(rf x).1<=1152921504606846976
 den:(rf x).2<=1152921504606846976
theorem Mz{xs:Fs}(h:∀x∈xs,ql x)(hl:xs.length<=32):bot xs 1<=1152921504606846976 ^ 32:=by
 have:=bot_le 1152921504606846976 δ xs 1 δ λx a=>(h x a).den;rw[one_mul] at this;exact eN this (pJ (c:=1152921504606846976) δ hl)
theorem Lg{xs:Fs}(h:∀x∈xs,ql x)(hl:xs.length<=32){n:Int}(c:n∈ups xs):0<n/\n<=1152921504606846976 ^ 33:=by
 obtain⟨x,a,rfl⟩:=aS.mp c;have f:=h x a;refine⟨yH a f.pos,?_⟩;have d:=Mz h hl;obtain⟨b,_,_⟩:=ow xs 1 δ;have h1:bot xs 1/(rf x).2<=bot xs 1:=r_ _ (dO b);have h0:0<=bot xs 1/(rf x).2:=Int.ediv_nonneg (dO b) (dO (ck x));have e:=cW f.pos;rw[show(33:Nat)=32+1 from rfl,jn,nO _ (1152921504606846976:Int)];exact dH f.num (eN h1 d) h0 δ
theorem Bw{n:Int}(h0:0<n)(h:n<=1152921504606846976 ^ 33):n.natAbs.log2<9000:=
 Sa (Nat.lt_of_le_of_lt (S5 (c:=1152921504606846976) h0 h) η)
theorem KH{n:Int}(h:n<=1152921504606846976):n<=1152921504606846976 ^ 33:=eN h η
@[irreducible] def yf(r:Nat)(i:Int)(A:Ar)(R:DK):Prop:=match A[r]? with
 |some (.lst xs)=>∃(k:Nat) (y:D),i=(k:Int)/\k<1000000/\xs[k]?=some y/\R y (A.set r (.lst (xs.eraseIdx k)))
 |_=>False
def Im:ja:=λx vs A R=>match x,vs with
 |.ref r,[.int i]=>yf r i A R
 |_,_=>False
theorem UX{A:Ar}{r k:Nat}{i:Int}{xs:Bi}{y:D}{R:DK}(h:A[r]?=some (.lst xs))(hi:i=(k:Int))(a:k<1000000)(b:xs[k]?=some y)(q:R y (A.set r (.lst (xs.eraseIdx k)))):yf r i A R:=by
 unfold yf;rw[h];exact⟨k,y,hi,a,b,q⟩
theorem ao.erase{mg:aA}{ι:Io}{H:Hp}{n:Nat}{ds:Bi}{vs:Bn}(h:ao mg ι n H ds vs)(k:Nat):ao mg ι n H (ds.eraseIdx k) (vs.eraseIdx k):=by
 rw[za,za];exact(h.take k).app (h.drop (k+1))
theorem NJ{mg:aA}{K:Frag}:kD mg K "list" IV Im:=by
 intro x ds A ι H u n R Q ra d rs h k;unfold Im at h;split at h
 .obtain⟨_,rfl⟩:=d
  obtain⟨v,_,rfl,f,rfl⟩:=rs;cases f;unfold yf at h;split at h
  .rename_i xs e
   obtain⟨j,y,rfl,p,g,q⟩:=h;obtain⟨ws,h1,a⟩:=ra.lst e;obtain⟨v,h2,i⟩:=ao.get a g;have l:=(bP.mp e).1;have r:=(bP.mp h2).1;have E:=ra.oU (o:=.lst (ws.eraseIdx j)) (c:=.lst (xs.eraseIdx j)) l;obtain⟨m,b⟩:=ra.put (c':=.lst (xs.eraseIdx j)) (o:=.lst (ws.eraseIdx j)) e h1 rfl ⟨_,d9,by simpa using ao.ext E _ _ (ao.erase a j)⟩;refine⟨_,ws,_,j,v,rfl,rfl,h1,ω,ω,?_,h2,k _ _ _ _ _ q b m (by simpa using RV.ext b _ _ i)⟩;rw[seqIndex_of ω ω];simp
  .exact h.elim
 .exact h.elim
noncomputable def IF(K:Frag):V->Bn->Hp->VK->Prop:=λx vs H Q=>∃(l:Addr) (ws:Bn) (y:V) (xs:Fm) (d:PyData),x=.ref l/\vs=[y]/\H l=some (.lst ws)/\Dp K H x (.list xs)/\Dp K H y d/\canLayAll0 xs=true/\d.canLay0=true/\min (depthAll xs) d.depth<=60/\Q (.int ((xs.countP λz=>PyData.eqv z d:Nat):Int)) H
theorem SR(w:X.A.units+64<cLine):mU X "list.count" (IF X.K):=by
 intro ae s σ H x vs v B Q I a f h;obtain⟨l,ws,y,xs,d,rfl,rfl,g,i,j,b,k,hd,q⟩:=h;obtain⟨u,rfl,m⟩:=f.one;obtain⟨as,ra⟩:=Dp.reads I _ _ v i a;obtain⟨bs,o⟩:=Dp.reads I d y u j m;cases a;obtain⟨z,its,n,r,hl,e⟩:=I.kM g;cases ra with
 |list h1 h2 p c=>
  rw[e] at h1;cases h1;cases p;refine jq F.slot_list_count ⟨_,e,rfl⟩ F.entry_list_count (F.args_list_count_2 _ _) (PySem.SeqAt.list_countAt l its.toArray n _ _ u (λy=>PyData.eqv (PySem.SeqAt.readOf s.heap y) d)) ⟨e,PySem.SeqAt.items_eqAt c o b k ?_,?_⟩
  .omega
  .have t:its.toArray.toList.countP (λy=>PyData.eqv (PySem.SeqAt.readOf s.heap y) d)=xs.countP λz=>PyData.eqv z d:=by
    rw[<-PySem.SeqAt.readsAll_map xs _ _ b c,countP_map];rfl
   rw[t];exact⟨.int _,H,I.tok _,⟨_,rfl⟩,q⟩
@[irreducible] def vL(r:Nat)(y:D)(A:Ar)(R:DK):Prop:=match A[r]? with
 |some (.lst xs)=>fP xs=true/\gO y=true/\canLayAll0 (bG xs)=true/\(toQ y).canLay0=true/\depthAll (bG xs)<=60/\R (.int (((bG xs).countP λz=>PyData.eqv z (toQ y):Nat):Int)) A
 |_=>False
def EG:ja:=λx vs A R=>match x,vs with
 |.ref r,[y]=>vL r y A R
 |_,_=>False
theorem Nr{mg:aA}{K:Frag}:kD mg K "list" (IF K) EG:=by
 intro x ds A ι H u i R Q ra a rs h k;unfold EG at h;split at h
 .obtain⟨_,rfl⟩:=a
  obtain⟨v,_,rfl,b,rfl⟩:=rs;unfold vL at h;split at h
  .rename_i xs e
   obtain⟨ws,h1,c⟩:=ra.lst e;obtain⟨d,p2,f,g,hd,q⟩:=h;exact⟨_,ws,v,_,_,rfl,rfl,h1,.lst (aU.of h1) (ao.dp xs ws d c),RV.dp _ v p2 b,f,g,ω,k.here ra q rfl⟩
  .exact h.elim
 .exact h.elim
theorem MX{A:Ar}{r:Nat}{xs:Bi}{y:D}{R:DK}(h:A[r]?=some (.lst xs))(h1:fP xs=true)(h2:gO y=true)(a:canLayAll0 (bG xs)=true)(b:(toQ y).canLay0=true)(c:depthAll (bG xs)<=60)(q:R (.int (((bG xs).countP λz=>PyData.eqv z (toQ y):Nat):Int)) A):vL r y A R:=by
 unfold vL;rw[h];exact⟨h1,h2,a,b,c,q⟩
@[irreducible] def tZ(a b:Nat)(A:Ar)(R:DK):Prop:=match A[a]?,A[b]? with
 |some (.lst xs),some (.lst ys)=>R (.ref A.length) (A++[.lst ((xs.zip ys).map λp=>.tup [p.1,p.2])])
 |_,_=>False
def Nh(n:dg):aO:=λτ A R=>n τ A λvs A1=>match vs with
 |[.ref a,.ref b]=>tZ a b A1 R
 |_=>False
theorem Sn{A:Ar}{a b:Nat}{xs ys:Bi}{R:DK}(h1:A[a]?=some (.lst xs))(h2:A[b]?=some (.lst ys))(q:R (.ref A.length) (A++[.lst ((xs.zip ys).map λp=>.tup [p.1,p.2])])):tZ a b A R:=by
 unfold tZ;rw[h1,h2];exact q
theorem NX{X:Cx}{N:En}{a b:Expr}{n:dg}{Y p2 h f:Pos}(C:X.mg "list"=none)(D:X.mg "zip"=none)(hc:X.calm=true)(Z:PA X [a,b] (fG X.mg N n))(F:Gl X "list":=by rfl)(G:Gl X "zip":=by rfl)
  (hs:starEach [a,b] X.env=[(false,eval a X.env),(false,eval b X.env)]:=by rfl)(I:starEach [b] X.env=[(false,eval b X.env)]:=by rfl)
  (hz:starEach [.Call (.Name "zip" p2) [a,b] [] f] X.env=[(false,eval (.Call (.Name "zip" p2) [a,b] [] f) X.env)]:=by rfl):
  PE X (.Call (.Name "list" Y) [.Call (.Name "zip" p2) [a,b] [] f] [] h) (up X.mg N (Nh n)):=
 dR (Uw F C lK G D η hc Z hs I hz) λσ H Q q=>by
  obtain⟨A,ι,τ,R,S,q,k⟩:=q
  refine⟨A,ι,τ,_,S,q,λvs A1 Zn H1 us g e1 v w=> ?_⟩
  match vs,g,w with
  |[.ref x,.ref y],g,w=>
   obtain⟨_,_,rfl,⟨_,rfl⟩,_,_,rfl,⟨_,rfl⟩,rfl⟩:=w
   have g:tZ x y A1 R:=g
   unfold tZ at g
   split at g
   .rename_i ds es e2 e3
    obtain⟨xs,h1,U⟩:=v.lst e2
    obtain⟨ys,h2,V⟩:=v.lst e3
    refine⟨_,_,xs,ys,rfl,aU.of h1,aU.of h2,λl H' ps sm hl W j m=> ?_⟩
    have o:jb H1 (λb=>if b=l then none else H' b):=λb u z=>by
     have:b≠l:=λe=>by rw[e,hl] at z;cases z
     show(if b=l then none else H' b)=some u
     rw[ay this]
     exact sm b u z
    have eH:H'=ax (λb=>if b=l then none else H' b) l (.lst ps):=by
     funext b
     by_cases z:b=l
     .rw[z,d9,W]
     .rw[aX z,ay z]
    have E:=v.F1 o
    rw[eH]
    refine jE (k.from (e1.trans E)) (v.fix E o) (ao.of_get ?_ λi d p hd J=> ?_) g (by show(if l=l then none else H' l)=none;rw[aC rfl])
    .rw[j,aQ,length_zip,ao.length U,ao.length V]
    .obtain⟨t,K,B,rfl,hx,hy,L⟩:=m i p J
     rw[bM] at hd
     cases c:(ds.zip es)[i]? with
     |none=>rw[c] at hd;cases hd
     |some pr=>
      rw[c] at hd
      cases hd
      have M:ds[i]? =some pr.1:=by
       rw[rH] at c
       exact c.1
      have hd2:es[i]? =some pr.2:=by
       rw[rH] at c
       exact c.2
      obtain⟨w,r,O⟩:=ao.get U M
      obtain⟨v2,s,P⟩:=ao.get V hd2
      rw[hx] at r
      rw[hy] at s
      cases r
      cases s
      have T:(if t=l then none else H' t)=some (.tup [K,B]):=by
       rw[ay (λz=>by rw[z,W] at L;cases L)]
       exact L
      exact⟨t,[K,B],rfl,T,K,[B],rfl,RV.ext E _ _ O,B,[],rfl,RV.ext E _ _ P,rfl⟩
   .exact g.elim
end L2
variable{P:Program}{w:World}{K:Frag}{mg:aA}{base:Heap}
namespace L2
def top(i:Nat):Stmt:=PySem.Challenge.pw_hangstill_k07_whole_halls.main.body.getD i (.Pass ⟨0,0,0,0⟩)
abbrev JP:Stmt:=top 15
abbrev q8:Ap:=[κf,"first","last"]
theorem Wv:bq [κf,"first","last"] q8 (aK JP):=bC
abbrev JN:Stmt:=top 16
abbrev uu:Ap:=[κf]
theorem Wt:bq [κf] uu (aK JN):=bC
abbrev JM:Stmt:=top 17
abbrev xH:Ap:=[κf,"rods"]
theorem Ws:bq [κf,"rods"] xH (aK JM):=bC
abbrev JL:Stmt:=top 18
abbrev ur:Ap:=[κf]
theorem Wr:bq [κf] ur (aK JL):=bC
abbrev JA:Stmt:=top 19
abbrev ug:Ap:=[κf]
theorem Wg:bq [κf] ug (aK JA):=bC
abbrev JO:Stmt:=top 20
abbrev xJ:Ap:=[κf]
theorem Wu:bq [κf] xJ (aK JO):=bC
abbrev JT:Stmt:=top 21
abbrev xN:Ap:=[κf]
theorem WA:bq [κf,"names"] xN (aK JT):=bC
abbrev Jy:Stmt:=top 22
abbrev xC:Ap:=[κf]
theorem We:bq [κf] xC (aK Jy):=bC
abbrev JC:Stmt:=top 23
abbrev xE:Ap:=[κe,κu]
theorem Wi:bq [κe,κu,κj,κv,κl] xE (aK JC):=bC
abbrev JW:Stmt:=top 24
abbrev uw:Ap:=[κe,κv]
theorem WD:bq [κe,κv] uw (aK JW):=bC
abbrev JX:Stmt:=top 25
abbrev xQ:Ap:=[κe,κj]
theorem WE:bq [κe,κj] xQ (aK JX):=bC
abbrev J2:Stmt:=top 26
abbrev xT:Ap:=["rod",κj]
theorem WK:bq ["rod",κj] xT (aK J2):=bC
abbrev Ke:Stmt:=top 27
abbrev x_:Ap:=[κe,κv,κj]
theorem Kr:bq [κe,κv,κj,"both","told"] x_ (aK Ke):=bC
abbrev Kd:Stmt:=top 28
abbrev xZ:Ap:=[κe,κu]
theorem WS:bq [κe,κu] xZ (aK Kd):=bC
abbrev JS:Stmt:=top 29
abbrev xM:Ap:=[κe,κu]
theorem Wz:bq [κe,κu] xM (aK JS):=bC
abbrev JG:Stmt:=top 31
abbrev uo:Ap:=["one",κk]
theorem Wm:bq ["one",κk,"rest"] uo (aK JG):=bC
abbrev J4:Stmt:=top 32
abbrev uy:Ap:=["top","bottom"]
theorem WM:bq ["top","bottom","divisor"] uy (aK J4):=bC
abbrev J1:Stmt:=top 33
abbrev ux:Ap:=["one",κk]
theorem WJ:bq ["one",κk] ux (aK J1):=bC
abbrev J3:Stmt:=top 34
abbrev xU:Ap:=["one",κk]
theorem WL:bq ["one",κk] xU (aK J3):=bC
abbrev JV:Stmt:=top 35
abbrev xP:Ap:=[κs]
theorem WC:bq [κs,"bottom","fraction",κj,"divisor","number"] xP (aK JV):=bC
abbrev Ka:Stmt:=top 37
abbrev xX:Ap:=[κe,κv,κC]
theorem Kq:bq [κe,κv,κC,"both","left",κD] xX (aK Ka):=bC
abbrev JY:Stmt:=top 38
abbrev xR:Ap:=[κe]
theorem WH:bq [κe] xR (aK JY):=bC
abbrev JU:Stmt:=top 39
abbrev xO:Ap:=[κs]
theorem WB:bq [κs,"names"] xO (aK JU):=bC
abbrev J':Stmt:=top 40
abbrev uz:Ap:=[κe]
theorem WQ:bq [κe] uz (aK J'):=bC
abbrev Jx:Stmt:=top 41
abbrev xB:Ap:=[κe]
theorem Wd:bq [κe,"first",κv,κl,κC] xB (aK Jx):=bC
abbrev Jz:Stmt:=top 44
abbrev xD:Ap:=[κf]
theorem Kn:bq [κf,κe] xD (aK Jz):=bC
abbrev JJ:Stmt:=top 45
abbrev pI:Ap:=[κy]
theorem Wo:bq [κy] pI (aK JJ):=bC
abbrev Kc:Stmt:=top 46
abbrev xY:Ap:=[κb,κl]
theorem WR:bq [κb,κl,κp,κq,"table"] xY (aK Kc):=bC
abbrev JZ:Stmt:=top 47
abbrev xS:Ap:=[κb,"start"]
theorem WI:bq [κb,"start",κr,"reached","at","step"] xS (aK JZ):=bC
abbrev JI:Stmt:=top 48
abbrev q7:Ap:=[κb]
theorem Ko:bq [κb,"told","seen","table",κl,κr] q7 (aK JI):=bC
abbrev Jw:Stmt:=top 49
abbrev xA:Ap:=[κp]
theorem Wc:bq [κp] xA (aK Jw):=bC
abbrev JE:Stmt:=top 50
abbrev qZ:Ap:=[κb,κp]
theorem Wk:bq [κb,κp,"ratio",κq,"one",κk] qZ (aK JE):=bC
abbrev JD:Stmt:=top 51
abbrev xF:Ap:=[κb]
theorem Wj:bq [κb,κp,κq,"table","first"] xF (aK JD):=bC
abbrev JF:Stmt:=top 52
abbrev um:Ap:=[κb]
theorem Wl:bq [κb,κr,"group","step",κp] um (aK JF):=bC
abbrev JB:Stmt:=top 53
abbrev uh:Ap:=[κb]
theorem Wh:bq [κb] uh (aK JB):=bC
abbrev JR:Stmt:=top 54
abbrev xK:Ap:=[κb,κf]
theorem Wx:bq [κb,κf] xK (aK JR):=bC
abbrev JK:Stmt:=top 55
abbrev xG:Ap:=[κp]
theorem Wq:bq [κp] xG (aK JK):=bC
abbrev JH:Stmt:=top 56
abbrev uq:Ap:=[κb,κr]
theorem Wn:bq [κb,κr] uq (aK JH):=bC
abbrev VZ:Stmt:=top 57
abbrev HZ:Ap:=[κb,"told"]
abbrev V0:Stmt:=top 58
abbrev H8:Ap:=[κu,"told"]
abbrev J9:Stmt:=top 59
abbrev xV:Ap:=[κy]
theorem WN:bq [κy] xV (aK J9):=bC
abbrev JQ:Stmt:=top 60
abbrev uv:Ap:=[κy,κf]
theorem Ww:bq [κy,κf,κb] uv (aK JQ):=bC
abbrev Kf:Stmt:=top 61
abbrev ya:Ap:=[κy]
theorem WT:bq [κy,κb,"told",κr] ya (aK Kf):=bC
abbrev J_:Stmt:=top 62
abbrev xW:Ap:=[κy,"told"]
theorem WO:bq [κy,"told",κb,"answer",κr,"known"] xW (aK J_):=bC
abbrev Jj:Stmt:=top 64
abbrev xm:Ap:=[κa,κz]
theorem V3:bq [κa,κz] xm (aK Jj):=bC
abbrev Jq:Stmt:=top 65
abbrev xq:Ap:=[κa,κz,κA]
theorem V9:bq [κa,κz,κA,"_law_drawn"] xq (aK Jq):=bC
abbrev Jk:Stmt:=top 66
abbrev qX:Ap:=[κa,κg,κA]
theorem V4:bq [κa,κg,κA] qX (aK Jk):=bC
abbrev Jt:Stmt:=top 67
abbrev qY:Ap:=[κa,κg,"_law_some"]
theorem Wa:bq [κa,κg,"_law_some"] qY (aK Jt):=bC
abbrev Jl:Stmt:=top 68
abbrev xo:Ap:=[κa,κg]
theorem V5:bq [κa,κg,"_law_pool","_law_made",κz,"_law_left","_law_deep"] xo (aK Jl):=bC
abbrev Js:Stmt:=top 69
abbrev xu:Ap:=[κa,κg,"_law_left","_law_deep"]
theorem Kh:bq [κa,κg,"_law_left","_law_deep","_law_arms",κo] xu (aK Js):=bC
abbrev Jp:Stmt:=top 70
abbrev uf:Ap:=[κh,κn]
theorem V8:bq [κh,κn] uf (aK Jp):=bC
abbrev Jo:Stmt:=top 71
abbrev pH:Ap:=[κE,κw]
theorem V7:bq [κE,κw,κo,κt] pH (aK Jo):=bC
abbrev Jv:Stmt:=top 72
abbrev xx:Ap:=[κh,κE,κw]
theorem Kl:bq [κh,κE,κw,"_law_both",κo] xx (aK Jv):=bC
abbrev Ji:Stmt:=top 73
abbrev qW:Ap:=[κd]
theorem V2:bq [κd,"_law_made",κh,"_law_names"] qW (aK Ji):=bC
abbrev Jm:Stmt:=top 74
abbrev ue:Ap:=[κd,"_law_start"]
theorem V6:bq [κd,"_law_start",κx,κm,"_law_turn",κi,κo,κt,κE,κw,"_law_more"] ue (aK Jm):=bC
abbrev Ju:Stmt:=top 75
abbrev xw:Ap:=[κo,κt]
theorem Wb:bq [κo,κt] xw (aK Ju):=bC
abbrev Jg:Stmt:=top 76
abbrev xh:Ap:=[κd]
theorem V1:bq [κd,κx,"_law_first",κm,κi,"_law_some"] xh (aK Jg):=bC
abbrev Ce:Stmt:=top 77
abbrev xy:Ap:=["_law_e"]
theorem Km:bq ["_law_e","_law_own"] xy (aK Ce):=bC
abbrev Jh:Stmt:=top 78
abbrev xj:Ap:=[κB,κd,"_law_thing"]
theorem Kg:bq [κB,κd,"_law_thing","_law_e"] xj (aK Jh):=bC
abbrev Jr:Stmt:=top 79
abbrev xr:Ap:=[κd]
theorem V_:bq [κd,"_law_made",κh] xr (aK Jr):=bC
abbrev mw:Stmt:=top 80
abbrev BN:Ap:=[κa]
theorem Kp:bq [κa,κg,κd,κm,"_law_thing","_law_heavy_here",κx,"_law_place",κo,κt,κi,"_law_rings","_law_start","_law_group",κc,"_law_mad","_law_bad","_law_odd"] BN (aK mw):=bC
open MA
theorem O8(T:TopD K mg "is_number" JP q8)(d:mg "isinstance"=none)(f:mg "bool"=none)(g:mg "int"=none):av P w K mg base 1 "is_number" q8 (au mg 3 vD):=by
 refine bW T Wv λj k l m nd=>⟨_,(aE (bY (PW.pt (gM (eW (jw RL d f boot_bool (vr 0))) (iD (eV (eW (jw RM d g boot_int (vr 0))))))) (aD (aP fL)) b_)
  (aD (aP (FH (vr 1) (vr 0) (vr 2))))),λds A R h hl=>?_⟩
 obtain⟨v,⟨i,a,b,rfl,rfl⟩,q⟩:=h;refine cD (λc=>?_) (λc=>?_)
 .have e:(decide (a<=i)&&decide (i<=b))=decide (i<=b):=by simp[c]
  rw[e] at q;exact q _ Gr.refl
 .have e:(decide (a<=i)&&decide (i<=b))=false:=by simp[c]
  rw[e] at q;exact q _ Gr.refl
theorem HW{c d:Nat}:([c]:B2)<[d]↔c<d:=by simp[List.cons_lt_cons_iff]
theorem WW:("a":Str).cps.toList=[97]:=η
theorem WX:("z":Str).cps.toList=[122]:=η
theorem O7(T:TopD K mg "is_name" JN uu)(b:mg "isinstance"=none)(d:mg "str"=none)(g:mg "len"=none)(i:mg "all"=none){t:Tok}(a:mg "LONGEST_NAME"=some (.int 3 t)):av P w K mg base 1 "is_name" uu (au mg 1 zF):=by
 refine bW T Wt λr s k u nd=>⟨_,(aE (bY (PW.pt (gM (eV (eW (jw wK b d boot_str (vr 0)))) (iD (eV (K3 aj (dz gI a3 g gS (aa (vr 0) af)) (qB a)))))) (aD (aP fL)) b_)
  (aD (aP (dz (oA rfl) oF i p9 (aa (fk none (own:=["letter"]) (aw:=[]) (ix:=[]) rfl (N_ (vr 0)) (λc=>(pG 0 (η:(["letter"]:Ap).Nodup))) (λc=>(FH bR (vr 0) bR))) af))))),λds A R h hl=>?_⟩
 obtain⟨v,⟨n,rfl,j,rfl⟩,q⟩:=h;have hz:n.length<=sizeLine:=dF j.hi δ;have h1:=j.lo;have y:=j.hi;refine⟨hz,cD (λ_=>?_) (λc=>absurd (ω:(1:Int)<=(n.length:Nat)) c)⟩;refine cN (λc=>absurd (ω:((n.length:Nat):Int)<=3) c) (λ_=>?_);refine gb (f:=λ_=>.bl true) trivial _ _ (λx k=>⟨[x],rfl,λQ l=>?_⟩) ?_ ?_
 .obtain⟨c,hc,rfl⟩:=aS.mp k
  obtain⟨z,B⟩:=j.az c hc;have m:¬((⟨#[c]⟩:Str).cps.toList<("a":Str).cps.toList):=by
   rw[WW];intro h;have:=HW.mp h;omega
  have o:¬(("z":Str).cps.toList<(⟨#[c]⟩:Str).cps.toList):=by
   rw[WX];intro h;have:=HW.mp h;omega
  refine cN (λ_=>?_) (λh=>absurd h m);have p:(!decide (("z":Str).cps.toList<(⟨#[c]⟩:Str).cps.toList))=true:=by rw[fh o];rfl
  show Q (.bl (!decide (("z":Str).cps.toList<(⟨#[c]⟩:Str).cps.toList))) A;rw[p];exact l
 .have:(mz n).length=n.length:=by simp[mz,Str.length]
  show 0+(mz n).length<=sizeLine;omega
 .refine oq (bs:=(mz n).map λ_=>true) aI (lU _ _) ?_
  have e:((mz n).map λ_=>true).all id=true:=θ
  rw[e];exact q _ Gr.push
abbrev Dy:Ct:=SV λds v=>∃rs,ds=[iQ rs]/\mW rs/\v=.aG
theorem Po(T:TopD K mg "is_named_number" JO xJ)(a:mg "isinstance"=none)(e:mg "tuple"=none)(f:mg "len"=none){t:Tok}(c:mg "HEAVIEST"=some (.int 999999 t))
  (d:av P w K mg base 1 "is_name" uu (au mg 1 zF))(b:av P w K mg base 1 "is_number" q8 (au mg 3 vD)):av P w K mg base 2 "is_named_number" xJ (au mg 1 DQ):=by
 refine bW T Wu λi n j g nd=>⟨_,(aE (bY (PW.pt (gM (eV (eW (jw kit_tuple a e nU (vr 0)))) (iD (jG g (dz gI a3 f gS (aa (vr 0) af)) aj)))) (aD (aP fL)) b_)
  (aD (aP (m5 (dL d i j (aa (dX g (vr 0) aj) af)) (qC (dL b i j (aa (dX g (vr 0) aj) (aa aj (aa (qB c) af))))))))),λds A R h hl=>?_⟩
 obtain⟨v,⟨r,rfl,k,⟨h1,h2⟩,rfl⟩,q⟩:=h;refine⟨rfl,_,⟨r.1,rfl,k,rfl⟩,λo l=>?_⟩;refine⟨rfl,_,⟨r.2,1,999999,rfl,rfl⟩,λp m=>?_⟩;rw[show(decide (1<=r.2)&&decide (r.2<=999999))=true by simp[h1,h2]];exact q _ (l.trans m)
theorem pw_eq{ys ss:Ap}(h1:ys.Pairwise strLt)(h2:ss.Pairwise strLt)(b:∀x,x∈ys↔x∈ss):ys=ss:=by
 induction ys generalizing ss with
 |nil=>
  cases ss with
  |nil=>rfl
  |cons a r=>exact absurd ((b a).mpr (bA ..)) θ
 |cons y ys f=>
  cases ss with
  |nil=>exact absurd ((b y).mp (bA ..)) θ
  |cons a r=>
   have d:=i8.mp h1;have p2:=i8.mp h2;have e:y=a:=by
    have g:=(b y).mp (bA ..);have h:=(b a).mpr (bA ..);rcases bx.mp g with q|q
    .exact q
    rcases bx.mp h with q'|q'
    .exact q'.symm
    exact absurd (vc (p2.1 y q) (d.1 a q')) (lJ _)
   subst e;rw[f d.2 p2.2 λx=>?_];constructor
   .intro c
    rcases bx.mp ((b x).mp (bz _ c)) with q|q
    .subst q;exact absurd (d.1 x c) (lJ _)
    .exact q
   .intro c
    rcases bx.mp ((b x).mpr (bz _ c)) with q|q
    .subst q;exact absurd (p2.1 x c) (lJ _)
    .exact q
theorem O_(T:TopD K mg "is_weights" JT xN)(b:mg "isinstance"=none)(g:mg "tuple"=none)(j:mg "all"=none)(d:mg "sorted"=none)(k:mg "set"=none)
  (a:av P w K mg base 2 "is_named_number" xJ (au mg 1 DQ)):av P w K mg base 3 "is_weights" xN (au mg 1 DI):=by
 refine bW T WA λl G p t nd=>⟨_,(aE (bY (PW.pt (gM (eV (eW (jw kit_tuple b g nU (vr 0)))) (iD (eV (eW (dz (oA rfl) oF j p9 (aa (fk none (own:=["pair"]) (aw:=[]) (ix:=[]) rfl (cj (vr 0)) (λc=>(pG 0 (η:(["pair"]:Ap).Nodup))) (λc=>(dL a l mj (aa (vr 0) af)))) af))))))) (aD (aP fL)) b_)
  (aE (vZ none (own:=["pair"]) (aw:=[]) (ix:=[]) (i:=1) nd rfl (by first|exact Or.inl rfl|exact Or.inr rfl) rfl (cj (vr 0)) (λc=>(pG 0 (η:(["pair"]:Ap).Nodup))) (λc=>(dX t (vr 0) aj)))
  (aD (aP (lX t (vr 1) (Fd d k rfl (aa (vr 1) af))))))),λds A R h hl=>?_⟩
 obtain⟨v,⟨rs,rfl,m,rfl⟩,q⟩:=h;have hz:0+(rs.map cX).length<=sizeLine:=by
  have:=m.len;have:(64:Nat)<=sizeLine:=δ
  simp;omega
 have o:∀n∈rs.map (·.1),Nm n:=λn z=>by
  obtain⟨r,l,rfl⟩:=aS.mp z;exact m.nm r l
 refine oB (λ_=>.bl true) _ _ _ (λ_ _=>trivial) (λx p B u=>⟨[x],rfl,λQ s=>?_⟩) hz (λB u=>?_)
 .obtain⟨r,l,rfl⟩:=aS.mp p
  exact⟨rfl,_,⟨r,rfl,m.nm r l,m.no r l,rfl⟩,s⟩
 refine oq (bs:=(rs.map cX).map λ_=>true) aI (lU _ _) ?_;rw[show((rs.map cX).map λ_=>true).all id=true by simp];refine gb (f:=λx=>match x with|.tup (y::_)=>y|x=>x) trivial _ _ (λx p=>⟨[x],rfl,λQ s=>?_⟩) hz ?_
 .obtain⟨r,l,rfl⟩:=aS.mp p
  exact s
 have e:(rs.map cX).map (λx=>match x with|.tup (y::_)=>y|x=>x)=(rs.map (·.1)).map D.str:=by
  rw[bH,bH];rfl
 rw[d_,e];refine KR (ss:=rs.map (·.1)) aI (by have:=strs_map id (rs.map (·.1));simpa using this) (by have:=m.len;simpa using this) λys C E=>?_;have F:=pw_eq C m.up E;subst F;refine FU (getElem?_push aI) aI o o ?_;rw[dc rfl];exact q _ (((u.trans Gr.push).trans Gr.push).trans Gr.push)
theorem Pb(T:TopD K mg "leaves_below" JW uw):∀d,av P w K mg base (d+1) "leaves_below" uw (au mg 2 (qp d)):=by
 intro d;induction d with
 |zero=>
  refine nc T λds A R RE h=>?_;obtain⟨v,⟨m,w,_,h,_⟩,_⟩:=h;omega
 |succ d c=>
  refine jf T WD rfl δ λN RE f k B outer s H E g t i ds A R h hl=>?_;have e:=g.units;refine⟨_,(aE (bY (j8 e (dX e (vr 0) aj) bR) (aD (aP (dI (aa (cE (aa (vr 1) (aa (dX e (vr 0) aj) af))) af)))) b_)
  (aD (aP (dP (dL c g i (aa (dX e (vr 0) aj) (aa (dP (vr 1) bR) af))) (dL c g i (aa (dX e (vr 0) aj) (aa (dP (vr 1) bR) af))))))),?_⟩
  obtain⟨v,⟨m,w,rfl,hd,u,z,rfl⟩,q⟩:=h;have C:(100:Nat)<=sizeLine:=δ
  cases m with
  |wt n=>exact⟨by show 2<=sizeLine;omega,by show 1<=sizeLine;omega,q _ _ Gr.push aI⟩
  |cz l r a b=>
   have o:max a.deep b.deep+1<d+1:=hd;have D:("l":Str).length=1:=η
   have F:("r":Str).length=1:=η
   have al:∀x y:Str,(x++y).length=x.length+y.length:=λx y=>u6;refine⟨ω,rfl,_,⟨a,_,rfl,ω,by rw[al];omega,ω,rfl⟩,λG I p h1=>?_⟩;refine⟨ω,rfl,_,⟨b,_,rfl,ω,by rw[al];omega,ω,rfl⟩,λJ L j h2=>?_⟩;have n1:=bK.kR a;have n2:=bK.kR b;have M:2 ^ a.deep<=2 ^ 8:=fK δ ω;have p2:2 ^ b.deep<=2 ^ 8:=fK δ ω;have hz:(512:Nat)<=sizeLine:=δ
   refine kG (j.get h1) h2 (by rw[aQ,aQ,o8,o8];omega) (q _ _ ((p.trans j).trans Gr.push) ?_);rw[aI];simp[kN]
theorem Pe(T:TopD K mg "load_below" JX xQ)(b:mg "sum"=none)(a:av P w K mg base 9 "leaves_below" uw (au mg 2 (qp 8))):av P w K mg base 10 "load_below" xQ (au mg 2 (DL 6)):=by
 refine bW T WE λk y d l nd=>⟨_,(aD (aP (dz (MM rfl) NQ b boot_sum (aa (fk (some 2) (own:=[κv,κl]) (aw:=[κj]) (ix:=[1]) rfl (cj (dL a k d (aa (vr 0) (aa bR af)))) (λc=>(mq rfl (gj (pG 0 (η:([κv,κl,κj]:Ap).Nodup)) (gj (pG 1 (η:([κv,κl,κj]:Ap).Nodup)) mu)))) (λc=>(dX l (vr 2) (vr 1)))) af)))),λds A R h hl=>?_⟩;obtain⟨m,r,rs,rfl,o,s,hd,i,q⟩:=h;refine⟨rfl,_,⟨m,_,rfl,ω,η,ω,rfl⟩,λz B j h1=>?_⟩;refine dJ h1 ?_;have n1:=bK.kR m;have C:2 ^ m.deep<=2 ^ 6:=fK δ hd;have hz:(64:Nat)<=sizeLine:=δ
 refine gb (f:=λx=>match x with|.tup [_,.str n]=>.int (val rs n)|x=>x) h1 _ _ (λx d=>?_) (by simp[o8];omega) ?_
 .obtain⟨p,t,rfl⟩:=aS.mp d
  refine⟨[.str p.1,.str p.2],rfl,λQ u=>?_⟩;have v:p.2∈m.names:=by rw[<-nu m ""];exact dN t
  exact e9 (j.get o) rfl (qM rs p.2 (i _ v)) u
 have e:((kN m "").map iG).map (λx=>match x with|.tup [_,.str n]=>D.int (val rs n)|x=>x)=m.names.map λn=>D.int (val rs n):=by
  rw[<-nu m "",bH,bH];rfl
 rw[d_,e];refine Xo (ns:=m.names.map (val rs)) aI (ints_map _ _) (λn g=>?_) (by simp;omega) ?_
 .obtain⟨x,d,rfl⟩:=aS.mp g
  have:=Yy s (i x d);omega
 .rw[Bo]
  exact q _ (j.trans Gr.push)
theorem OQ(T:TopD K mg "check_are_weights" Jy xC){a:Addr}(c:mg "NoWeights"=some (.ref a))(d:excIn K a nF "ValueError.__new__"=true)
  (b:av P w K mg base 3 "is_weights" xN (au mg 1 DI)):av P w K mg base 4 "check_are_weights" xC (au mg 1 Dy):=by
 refine bW T We λe f g k nd=>⟨_,(aD (bY (eV (eW (dL b e g (aa (vr 0) af)))) (aD (qE f rfl c d (aa bR af))) b_)),λds A R h hl=>?_⟩;obtain⟨v,⟨rs,rfl,i,rfl⟩,q⟩:=h;exact⟨rfl,_,⟨rs,rfl,i,rfl⟩,λl j=>q _ j⟩
theorem OW(T:TopD K mg "check_weights" JC xE)(i:mg "dict"=none){d:Addr}(f:mg "NoWeights"=some (.ref d))(g:excIn K d nF "ValueError.__new__"=true)
  (c:av P w K mg base 4 "check_are_weights" xC (au mg 1 Dy))(e:av P w K mg base 9 "leaves_below" uw (au mg 2 (qp 8))):av P w K mg base 10 "check_weights" xE (au mg 2 DC):=by
 refine bW T Wi λl s j t nd=>⟨_,(aE (fm (dL c l j (aa (vr 1) af)))
  (aE (dS 2 nd (ie (qv rfl) qz i r9 (aa (vr 1) af)))
  (aD (d8 dM rfl (cj (dL e l j (aa (vr 0) (aa bR af)))) (oO rfl (gK (dG 3 nd) (gK (dG 4 nd) oQ))) (aD (bY (uR t (vr 4) (vr 2)) (aD (qE s rfl f g (aa (NU (vr 4)) af))) b_)))))),λds A R h hl=>?_⟩
 obtain⟨v,⟨m,rs,rfl,n,hd,u,rfl⟩,q⟩:=h;refine⟨rfl,_,⟨rs,rfl,n,rfl⟩,λo y=>?_⟩;refine Fq n ?_;refine⟨rfl,_,⟨m,_,rfl,ω,η,ω,rfl⟩,λz F r h2=>?_⟩;refine dJ h2 ?_;have B:z[o.length]?=some (.dct (fN rs)):=r.get aI;refine Fx h2 (λτ=>∃a b,τ=[some (enc m),some (iQ rs),some (.ref o.length),a,b]) _ _ ⟨none,none,rfl⟩ (λx j τ k G C=>?_) (λτ _=>q _ ((y.trans Gr.push).trans r));obtain⟨a,b,rfl⟩:=k;obtain⟨p,D,rfl⟩:=aS.mp j;have E:p.2∈m.names:=by rw[<-nu m ""];exact dN D
 refine⟨rfl,oY B rfl ?_⟩;rw[qM rs p.2 (u _ E)];exact C _ ⟨_,_,rfl⟩
theorem OY(T:TopD K mg "greatest_divisor" JG uo):av P w K mg base 1 "greatest_divisor" uo (au mg 2 zC):=by
 refine bW T Wm λp s t u nd=>⟨_,(aE (As dM (Cw (vr 1) aj) (aE (dS 2 nd (oJ (vr 0) (vr 1)))
  (aE (dS 0 nd (vr 1))
  (aD (dS 1 nd (vr 2))))))
  (aD (aP (vr 0)))),λds A R h hl=>?_⟩
 obtain⟨v,⟨a,b,rfl,i,j,rfl⟩,q⟩:=h;refine⟨λn τ A'=>A'=A/\∃(x y:Int) (r:Option D),τ=[some (.int x),some (.int y),r]/\0<=x/\0<=y/\Int.gcd x y=Int.gcd a b/\n=y.toNat,⟨_,rfl,a,b,none,rfl,i,j,rfl,rfl⟩,?_⟩;rintro n τ A' ⟨rfl,x,y,r,rfl,h0,h1,g,rfl⟩;refine cD (λc=>?_) (λc=>?_)
 .refine⟨λτ k=>k=A'/\∃(f d:Int) (r:Option D),τ=[some (.int f),some (.int d),r]/\0<=f/\0<=d/\Int.gcd f d=Int.gcd a b/\d.toNat<y.toNat,λbX A' ⟨e,f,d,r',h1,h2,l,m,o⟩=>⟨_,o,e,f,d,r',h1,h2,l,m,rfl⟩,?_⟩
  have m0:=vg x (ω:y≠0);have z:=vf x (ω:0<y);exact⟨c,rfl,y,x%y,_,rfl,h1,m0,by rw[Gq h0 c];exact g,ω⟩
 .have e:y=0:=ω
  subst e;have:(x:Int)=(Int.gcd a b:Int):=by rw[<-g,Int.gcd_zero_right];omega
  show R (.int x) A';rw[this];exact q _ Gr.refl
theorem PC(T:TopD K mg "reduced" J4 uy)(c:av P w K mg base 1 "greatest_divisor" uo (au mg 2 zC)):av P w K mg base 2 "reduced" uy (au mg 2 vE):=by
 refine bW T WM λf l g m nd=>⟨_,(aE (dS 2 nd (dL c f g (aa (vr 0) (aa (vr 1) af))))
  (aD (aP (cE (aa (oH (vr 0) (vr 2)) (aa (oH (vr 1) (vr 2)) af)))))),λds A R h hl=>?_⟩
 obtain⟨v,⟨a,b,rfl,i,o,hz,rfl⟩,q⟩:=h;have d:0<(Int.gcd a b:Int):=by
  have:=Int.gcd_pos_of_ne_zero_left b (ω:a≠0);omega
 have hl:(Int.gcd a b:Int)<=a:=le_of_dvd i (gcd_dvd_left a b);have e:(Int.gcd a b:Int).natAbs.log2<9000:=by
  have h1:(Int.gcd a b:Int).natAbs<2 ^ 2000:=ω
  have:=(log2_lt (n:=(Int.gcd a b:Int).natAbs) (k:=2000) ω).mpr h1;omega
 refine⟨rfl,_,⟨a,b,rfl,ω,ω,rfl⟩,λp j=>?_⟩;exact⟨⟨d,e⟩,⟨d,e⟩,(δ:2<=sizeLine),q _ j⟩
def fq(x:Rat):D:=.tup [.int (rf x).1,.int (rf x).2]
def ym(p:Str×Str×Rat):D:=.tup [.str p.1,.str p.2.1,fq p.2.2]
theorem yg{a b:Int}(c:0<b):rd a b=rf ((a:Rat)/(b:Rat)):=yk c
def sJ:Ct:=λds A R _=>∃a b c d:Int,ds=[.tup [.int a,.int b],.tup [.int c,.int d]]/\0<a/\0<b/\0<c/\0<d/\c<2 ^ 64/\d<2 ^ 64/\a*c<2 ^ 2000/\∀A',Gr A A'->R (fq (((a:Rat)/(b:Rat))*((c:Rat)/(d:Rat)))) A'
theorem mul_div{a b c d:Int}(e:0<b)(hd:0<d):((a*c:Int):Rat)/((b*d:Int):Rat)=((a:Rat)/(b:Rat))*((c:Rat)/(d:Rat)):=by
 have h1:=iO (gR e);have h2:=iO (gR hd);rw[gU,gU];grind
def DW(d:Nat):Ct:=λds A R _=>∃m w x,ds=[enc m,.str w,fq x]/\m.arms/\m.deep<d/\d<=6/\w.length+d<=100/\0<x/\(rf x).1*18 ^ m.deep<=1000000000/\∀A' q,Gr A A'->A'[q]?=some (.lst ((b6 m w x).map ym))->A.length<=q->R (.ref q) A'
def zL:Ct:=λds A R _=>∃m,ds=[enc m]/\Wf m/\m.deep<=5/\∀A' q,Gr A A'->A'[q]?=some (.lst ((b6 m "" 1).map ym))->A.length<=q->R (.ref q) A'
theorem Eg{a:Int}(h:a<=1000000000000):a<2 ^ 2000:=rM h (rZ (δ:(1000000000000:Int)<2 ^ 64) (by
 have:(2:Nat) ^ 64<=2 ^ 2000:=fK δ δ;exact_mod_cast this))
theorem Pw(T:TopD K mg "product" J1 ux)(e:av P w K mg base 2 "reduced" uy (au mg 2 vE)):av P w K mg base 3 "product" ux (au mg 2 sJ):=by
 refine bW T WJ λj s k f nd=>⟨_,(aD (aP (dL e j k (aa (dQ (dX f (vr 0) aj) (dX f (vr 1) aj)) (aa (dQ (dX f (vr 0) aj) (dX f (vr 1) aj)) af))))),λds A R h hl=>?_⟩;obtain⟨a,b,c,d,rfl,h1,h2,l,i,m,n,o,q⟩:=h;refine⟨.inr ⟨ω,m⟩,.inr ⟨ω,n⟩,rfl,_,⟨_,_,rfl,cT h1 l,cT h2 i,o,rfl⟩,λp r=>?_⟩;have g:=q p r;rw[<-mul_div h2 i] at g;unfold fq at g;rw[<-yg (cT h2 i)] at g;exact g
theorem Pz(T:TopD K mg "quotient" J3 xU)(f:av P w K mg base 2 "reduced" uy (au mg 2 vE)):av P w K mg base 3 "quotient" xU (au mg 2 (λds A R E=>∃a b c d:Int,ds=[.tup [.int a,.int b],.tup [.int c,.int d]]/\sJ [.tup [.int a,.int b],.tup [.int d,.int c]] A R E)):=by
 refine bW T WL λk t l g nd=>⟨_,(aD (aP (dL f k l (aa (dQ (dX g (vr 0) aj) (dX g (vr 1) aj)) (aa (dQ (dX g (vr 0) aj) (dX g (vr 1) aj)) af))))),λds A R h hl=>?_⟩;obtain⟨a,b,c,d,rfl,u,v,d',c',e,h1,h2,m,j,n,o,p,q⟩:=h;cases e;refine⟨.inr ⟨ω,n⟩,.inr ⟨ω,o⟩,rfl,_,⟨_,_,rfl,cT h1 m,cT h2 j,p,rfl⟩,λr s=>?_⟩;have i:=q r s;rw[<-mul_div h2 j] at i;unfold fq at i;rw[<-yg (cT h2 j)] at i;exact i
theorem PM(T:TopD K mg "shares_below" Ka xX)(e:av P w K mg base 3 "product" ux (au mg 2 sJ)):∀d,av P w K mg base (d+3) "shares_below" xX (au mg 3 (DW d)):=by
 intro d;induction d with
 |zero=>
  refine nc T λds A R RE h=>?_;obtain⟨m,w,x,_,_,h,_⟩:=h;omega
 |succ d c=>
  refine jf T Kq rfl δ λN RE f D B outer s H E j V k ds A R h hl=>?_;have g:=j.units;have nd:=Kq.nd;refine⟨_,(aE (bY (j8 g (dX g (vr 0) aj) bR) (aD (aP (dI (aa (cE (aa (vr 1) (aa (dX g (vr 0) aj) (aa (vr 2) af)))) af)))) b_)
  (aE (dS 3 nd (dP (dX g (vr 0) aj) (dX g (vr 0) aj)))
  (aE (dS 4 nd (dL e j k (aa (vr 2) (aa (cE (aa (dX g (vr 0) aj) (aa (vr 3) af))) af))))
  (aE (dS 5 nd (dL e j k (aa (vr 2) (aa (cE (aa (dX g (vr 0) aj) (aa (vr 3) af))) af))))
  (aD (aP (dP (dL c j k (aa (dX g (vr 0) aj) (aa (dP (vr 1) bR) (aa (vr 4) af)))) (dL c j k (aa (dX g (vr 0) aj) (aa (dP (vr 1) bR) (aa (vr 5) af))))))))))),?_⟩
  obtain⟨m,w,x,rfl,F,hd,W,X,i,o,q⟩:=h;have Y:(1000:Nat)<=sizeLine:=δ
  cases m with
  |wt n=>exact⟨(δ:3<=sizeLine),(δ:1<=sizeLine),q _ _ Gr.push aI (aJ _)⟩
  |cz l r a b=>
   have G:max a.deep b.deep+1<d+1:=hd;obtain⟨u,Z,v,r4,p,t⟩:=F;have ll:("l":Str).length=1:=η
   have lr:("r":Str).length=1:=η
   have al:∀x y:Str,(x++y).length=x.length+y.length:=λx y=>u6;have np:=cW i;have dp:=ck x;have o:(rf x).1*18 ^ (max a.deep b.deep+1)<=1000000000:=o;have n1:(rf (x*((r:Rat)/((l+r:Int):Rat)))).1<=(rf x).1*18:=eN (num_mul ω (rQ ω ω)) (pY ω ω);have n2:(rf (x*((l:Rat)/((l+r:Int):Rat)))).1<=(rf x).1*18:=eN (num_mul ω (rQ ω ω)) (pY ω ω);obtain⟨k1,_,k0⟩:=Fj o n1 np;obtain⟨_,k2,_⟩:=Fj o n2 np;have I:0<x*((r:Rat)/((l+r:Int):Rat)):=bK.step_pos u v i;have p2:0<x*((l:Rat)/((l+r:Int):Rat)):=by
    have:=bK.step_pos (l:=r) (r:=l) v u i;rwa [add_comm r l] at this
   have m1:(rf x).1*r<=1000000000*18:=dH k0 ω ω ω;have m2:(rf x).1*l<=1000000000*18:=dH k0 ω ω ω;have J:(18:Int)<2 ^ 64:=δ
   refine⟨(δ:2<=sizeLine),rfl,_,_,_,_,rfl,np,dp,ω,ω,ω,ω,Eg ω,λA1 L=>?_⟩;refine⟨(δ:2<=sizeLine),rfl,_,_,_,_,rfl,np,dp,ω,ω,ω,ω,Eg ω,λA2 M=>?_⟩;rw[iJ];refine⟨ω,rfl,a,_,_,rfl,p,ω,ω,by rw[al];omega,I,k1,λA3 q3 O Q _=>?_⟩;refine⟨ω,rfl,b,_,_,rfl,t,ω,ω,by rw[al];omega,p2,k2,λS q4 z U _=>?_⟩;have z1:=pq (m:=a) ω;have z2:=pq (m:=b) ω;have C:Gr A S:=((L.trans M).trans O).trans z;refine kG (z.get Q) U (by simp[pM];omega) (q _ _ (C.trans Gr.push) ?_ C.len);rw[aI];simp[b6]
theorem PL(T:TopD K mg "shares" J' uz)(a:av P w K mg base 9 "check_mobile" ug (au mg 1 zB))(b:av P w K mg base 9 "shares_below" xX (au mg 3 (DW 6))):av P w K mg base 10 "shares" uz (au mg 1 zL):=by
 refine bW T WQ λc j d k nd=>⟨_,(aE (fm (dL a c d (aa (vr 0) af)))
  (aD (aP (dL b c d (aa (vr 0) (aa bR (aa (cE (aa aj (aa aj af))) af))))))),λds A R h hl=>?_⟩
 obtain⟨m,rfl,f,hd,q⟩:=h;refine⟨rfl,_,⟨m,rfl,f,hd,rfl⟩,λl g=>?_⟩;have n:(D.tup [.int 1,.int 1])=fq 1:=rfl;refine⟨(δ:2<=sizeLine),rfl,m,_,1,rfl,f.arms,ω,ω,η,δ,?_,λo r i h2 l2=>q _ _ (g.trans i) h2 (dF g.len l2)⟩;have p:=ri hd;have e:(18:Int) ^ 5=1889568:=δ
 rw[e] at p;show(1:Int)*18 ^ m.deep<=1000000000;omega
def bD:Option (Str×Str)->D
 |some p=>.tup [.str p.1,.str p.2]
 |none=>.aG
def Dv:Ct:=λds A R _=>∃m,ds=[enc m]/\Wf m/\m.deep<=5/\∀A',Gr A A'->R (bD (fC [] (b6 m "" 1))) A'
theorem wk(k:Key)(v:D)(c:Key):∀kvs:List (Key×D),bF (cP kvs k v) c=if k=c then some v else bF kvs c:=by
 intro kvs;by_cases f:(kvs.any λb=>decide (b.1=k))=true
 .have e:cP kvs k v=kvs.map λb=>if b.1=k then (b.1,v) else b:=by
   unfold cP;rw[aC f]
  rw[e];clear e;induction kvs with
  |nil=>simp at f
  |cons p r i=>
   by_cases d:p.1=k
   .rw[cJ,aC d]
    unfold bF;by_cases a:k=c
    .rw[aC a,aC (by rw[<-a];exact d)]
    .rw[ay a,ay (λz=>a (by rw[<-d];exact z))]
     rw[ay (λz=>a (by rw[<-d];exact z))];by_cases h:(r.any λb=>decide (b.1=k))=true
     .rw[i h,ay a]
     .have:r.map (λb=>if b.1=k then (b.1,v) else b)=r:=by
       rw[rN (g:=id)]
       .simp
       .intro q j
        rw[ay]
        .rfl
        .intro z
         exact h (nQ.mpr ⟨q,j,dc z⟩)
      rw[this]
   .have h:(r.any λb=>decide (b.1=k))=true:=by simpa[d] using f
    rw[cJ,ay d];unfold bF;by_cases a:p.1=c
    .rw[aC a,ay (λz=>d (by rw[z];exact a)),aC a]
    .rw[ay a,ay a]
     exact i h
 .have e:cP kvs k v=kvs++[(k,v)]:=by
   unfold cP;rw[ay f]
  rw[e];clear e;induction kvs with
  |nil=>simp[bF]
  |cons p r i=>
   have d:p.1≠k:=λz=>f (by simp[z]);have h:¬(r.any λb=>decide (b.1=k))=true:=λz=>f (by simp[z]);show(if p.1=c then some p.2 else bF (r++[(k,v)]) c)=if k=c then some v else (if p.1=c then some p.2 else bF r c)
   by_cases a:p.1=c
   .rw[aC a,ay (λz=>d (by rw[z];exact a)),aC a]
   .rw[ay a,ay a]
    exact i h
theorem Vm(kvs:List (Key×D))(k:Key)(v:D):(cP kvs k v).length<=kvs.length+1:=by
 unfold cP;split<;>simp
theorem B3{A:Ar}{r:Nat}{kvs:List (Key×D)}{y v:D}{k:Key}{R:Ar->Prop}(h:A[r]?=some (.dct kvs))(a:gw y=some k)(hl:kvs.length<sizeLine)(q:R (A.set r (.dct (cP kvs k v)))):uE r y v A R:=by
 unfold uE;simp only[h,a];exact⟨hl,q⟩
theorem Qh{A:Ar}{r:Nat}{c c':C}(h:A[r]?=some c):(A.set r c')[r]?=some c':=by
 rw[fy (bP.mp h).1]
theorem G_(x:Rat):(toQ (fq x)).canLay0=true:=by simp[fq,toQ,bG,canLay0,canLayAll0]
theorem N6(x:Rat):(toQ (fq x)).depth<=64:=by simp[fq,toQ,bG,PyData.depth,depthAll]
theorem Az(x y:Rat):PyData.eqv (toQ (fq x)) (toQ (fq y))=decide (x=y):=by
 by_cases h:x=y
 .subst h
  simp[fq,toQ,bG,PyData.eqv,eqvAll]
 .rw[fh h]
  have:¬((rf x).1=(rf y).1/\(rf x).2=(rf y).2):=λz=>h (VC (Prod.ext z.1 z.2));by_cases h1:(rf x).1=(rf y).1
  .have h2:¬(rf x).2=(rf y).2:=λz=>this ⟨h1,z⟩
   simp[fq,toQ,bG,PyData.eqv,eqvAll,h2]
  .simp[fq,toQ,bG,PyData.eqv,eqvAll,h1]
theorem w4{x y:Rat}{A:Ar}{R:DK}(k:R (.bl (!decide (x=y))) A):fD true (fq x) (fq y) A R:=by
 unfold fD;have h1:cH A (fq x)=toQ (fq x):=rfl;have h2:cH A (fq y)=toQ (fq y):=rfl;rw[h1,h2];have:=N6 x;refine⟨rfl,rfl,G_ x,G_ y,ω,?_⟩;rw[Az];exact k
theorem F5{pre:List (Str×Str×Rat)}{p:Str×Str×Rat}{n:Str}:(pre++[p]).find? (λq=>decide (q.2.1=n))=match pre.find? (λq=>decide (q.2.1=n)) with|some q=>some q|none=>if p.2.1=n then some p else none:=by
 rw[find?_append];cases pre.find? (λq=>decide (q.2.1=n)) with
 |some q=>rfl
 |none=>
  by_cases h:p.2.1=n
  .simp[h]
  .simp[h]
theorem ON(T:TopD K mg "bar" Jx xB)(f:av P w K mg base 10 "shares" uz (au mg 1 zL)):av P w K mg base 11 "bar" xB (au mg 1 Dv):=by
 refine bW T Wd λO Y Q o nd=>⟨_,(aE (dS 1 nd Ak)
  (aE (d8 dM rfl (cj (dL f O Q (aa (vr 0) af))) (oO rfl (gK (dG 2 nd) (gK (dG 3 nd) (gK (dG 4 nd) oQ)))) (aD (bY (uR o (vr 3) (vr 1)) (aD (Aq o (vr 1) (vr 3) (cE (aa (vr 2) (aa (vr 4) af))) rfl)) (aD (bY (jG o (dX o (dX o (vr 1) (vr 3)) aj) (vr 4)) (aD (aP (cE (aa (dX o (dX o (vr 1) (vr 3)) aj) (aa (vr 2) af))))) b_)))))
  (aD (aP jX)))),λds A R h hl=>?_⟩
 obtain⟨m,rfl,S,hd,q⟩:=h;obtain⟨r,k⟩:∃t,t=fC [] (b6 m "" 1):=⟨_,rfl⟩;rw[<-k] at q;refine⟨rfl,m,rfl,S,hd,λU M H h1 l1=>?_⟩;have l1:A.length+1<=M:=by simpa using l1
 refine dJ h1 ?_;have ln:=pM m "" 1;have nl:=pq hd;have hz:(1000:Nat)<=sizeLine:=δ
 have V:=H.get (aI (A:=A) (c:=C.dct []));refine eF (λrest τ A'=>∃(pre a:List (Str×Str×Rat)) (kvs:List (Key×D)) (x y z:Option D),rest=a.map ym/\τ=[some (enc m),some (.ref A.length),x,y,z]/\pre++a=b6 m "" 1/\fC pre a=r/\A'[A.length]?=some (.dct kvs)/\kvs.length<=pre.length/\(∀n:Str,bF kvs (Sum.inr n)=(pre.find? λq=>decide (q.2.1=n)).map λp=>.tup [.str p.1,fq p.2.2])/\eO A.length U A'/\A.length+1<=A'.length) ?_ ?_ ?_ _ _ _ ⟨[],b6 m "" 1,[],none,none,none,rfl,rfl,rfl,k.symm,V,aJ _,λn=>rfl,eO.refl,by have:=H.len;simpa using this⟩
 .rintro rest τ A' ⟨pre,a,kvs,x,y,z,_,_,_,_,_,_,_,b,_⟩
  exact b M _ ω h1
 .rintro v rest τ A' ⟨pre,a,kvs,x,y,z,e,rfl,I,d,s,W,J,b,u⟩ Z N
  cases a with
  |nil=>cases e
  |cons p a=>
   cases e;obtain⟨l,n,i⟩:=p;have g:=J n;have X:pre.length<=32:=by
    have:(pre++(l,n,i)::a).length=(b6 m "" 1).length:=by rw[I]
    simp at this;omega
   unfold fC at d;refine⟨rfl,oY s rfl ?_⟩;cases j:pre.find? (λq=>decide (q.2.1=n)) with
   |none=>
    rw[j] at g d;have g:bF kvs (Sum.inr n)=none:=g;rw[g];refine⟨(δ:2<=sizeLine),B3 s rfl ω ?_⟩;refine N _ _ ⟨pre++[(l,n,i)],a,_,_,_,_,rfl,rfl,by simpa using I,d,Qh s,?_,λn'=>?_,b.trans eO.set,by simpa using u⟩
    .have:=Vm kvs (Sum.inr n) (.tup [.str l,fq i])
     simp;omega
    .rw[wk,F5]
     by_cases E:n=n'
     .subst E
      rw[aC rfl,j];simp
     .rw[ay (λz=>E (Sum.inr.inj z)),J n']
      cases pre.find? (λq=>decide (q.2.1=n')) with
      |some q=>rfl
      |none=>simp[E]
   |some B=>
    rw[j] at g d;have g:bF kvs (Sum.inr n)=some (.tup [.str B.1,fq B.2.2]):=g;rw[g];refine e9 s rfl g ?_;refine w4 ?_;by_cases L:B.2.2=i
    .have d:(if B.2.2=i then fC (pre++[(l,n,i)]) a else some (B.1,l))=r:=d
     rw[aC L] at d;refine cN (λc=>absurd L c) (λ_=>?_);refine N _ _ ⟨pre++[(l,n,i)],a,kvs,_,_,_,rfl,rfl,by simpa using I,d,s,by simp;omega,λn'=>?_,b,u⟩;rw[F5,J n'];cases F:pre.find? (λq=>decide (q.2.1=n')) with
     |some q=>rfl
     |none=>
      by_cases E:n=n'
      .subst E
       rw[j] at F;cases F
      .simp[E]
    .have d:(if B.2.2=i then fC (pre++[(l,n,i)]) a else some (B.1,l))=r:=d
     rw[ay L] at d;refine cN (λ_=>?_) (λc=>absurd c L);refine e9 s rfl g ?_;refine⟨(δ:2<=sizeLine),?_⟩;have G:=q A' (Gr.HR (Gr.push.trans H) (aJ _) b);rw[<-d] at G;exact G
 .rintro τ A' ⟨pre,a,kvs,x,y,z,e,rfl,I,d,s,W,J,b,u⟩
  cases a with
  |cons p a=>cases e
  |nil=>
   have G:=q A' (Gr.HR (Gr.push.trans H) (aJ _) b);rw[<-d] at G;exact G
theorem OR(T:TopD K mg "_law_cell_at" Jj xm)(a:mg "len"=none):av P w K mg base 1 "_law_cell_at" xm (au mg 2 Dz):=by
 refine bW T V3 λi j l d nd=>⟨_,(aE (bY (rD (vr 1) (dz gI a3 a gS (aa (vr 0) af))) (aD (aP (dX d (vr 0) (vr 1)))) b_)
  (aE (bY (j8 d (vr 0) (dI af)) (aD (aP aj)) b_)
  (aD (aP (dP (dQ (dX d (vr 0) (oJ (vr 1) (dz gI a3 a gS (aa (vr 0) af)))) aj) (vr 1)))))),λds A R h hl=>?_⟩
 obtain⟨ns,k,rfl,g,q⟩:=h;refine cD (λc=>?_) (λc=>?_)
 .obtain⟨v,e,_⟩:=zS g c
  conv=>whnf
  rw[e];exact q v _ Gr.refl
 .refine⟨cA _,OC ?_⟩
  refine cD (λf=>?_) (λf=>?_)
  .exact q _ _ Gr.push
  .have b:0<(ns.length:Int):=by
    have:=uX.mpr f;omega
   obtain⟨v,e,_⟩:=zS (xs:=ns) (vg k ω) (vf k b);refine⟨b,?_⟩;conv=>whnf
   rw[e];exact⟨.inr ⟨δ,δ⟩,q _ _ Gr.push⟩
theorem Pj(T:TopD K mg "_law_mixed" Jq xq)(a:av P w K mg base 1 "_law_cell_at" xm (au mg 2 Dz)):av P w K mg base 2 "_law_mixed" xq (au mg 3 DO):=by
 refine bW T V9 λc f d j nd=>⟨_,(aE (dS 3 nd (oJ (dQ (dP (dP (dL a c d (aa (vr 0) (aa (vr 1) af))) (dQ aj (vr 1))) aj) aj) aj))
  (aD (aP (oJ (oJ (dP (dP (dQ (vr 3) (vr 3)) (dQ aj (vr 3))) (vr 1)) aj) (vr 2))))),λds A R h hl=>?_⟩
 obtain⟨ns,k,m,rfl,e,b,q⟩:=h;refine⟨rfl,ns,k,rfl,e,λi A' g=>?_⟩;refine⟨.inl ⟨δ,δ⟩,.inr ⟨δ,δ⟩,(by decide:(0:Int)<2147483647),?_⟩;have l:=vg ((i+7919*k+1)*48271) (δ:(2147483647:Int)≠0);have n:=vf ((i+7919*k+1)*48271) (δ:(0:Int)<2147483647);have o:(2147483647:Int)<2 ^ 64:=δ
 refine⟨.inl ⟨ω,ω⟩,.inl ⟨δ,δ⟩,(by decide:(0:Int)<2147483629),b,?_⟩;exact q _ _ (vg _ ω) (vf _ b) g
theorem OX(T:TopD K mg "_law_draw" Jk qX)(b:mg "len"=none)(a:av P w K mg base 2 "_law_mixed" xq (au mg 3 DO)):av P w K mg base 3 "_law_draw" qX (au mg 3 sG):=by
 refine bW T V4 λe k f l nd=>⟨_,(aE (fm (gJ gQ pU p7 nv oG (vr 1) (aa aj af)))
  (aD (aP (dL a e f (aa (vr 0) (aa (dz gI a3 b gS (aa (vr 1) af)) (aa (vr 2) af))))))),λds A R h hl=>?_⟩
 obtain⟨ns,t,m,n,rfl,⟨xs,d,hz⟩,o,j,q⟩:=h;refine⟨gf d,ou d (by rw[sizeLine];omega) ?_⟩;have c:(A.set t (.lst (xs++[.int 0])))[t]?=some (.lst (xs++[.int 0])):=get_set d;refine nj c ⟨rfl,ns,_,m,rfl,ω,j,λi A' h0 h1 g=>?_⟩;exact q i A' h0 h1 (eO.set.trans g.but) (Tw.gr ⟨_,c,by simpa using hz⟩ g)
theorem Pu(T:TopD K mg "_law_pick" Jt qY)(c:mg "len"=none)(a:av P w K mg base 3 "_law_draw" qX (au mg 3 sG)):av P w K mg base 4 "_law_pick" qY (au mg 3 qt):=by
 refine bW T Wa λd o e g nd=>⟨_,(aD (aP (dX g (vr 2) (dL a d e (aa (vr 0) (aa (vr 1) (aa (dz gI a3 c gS (aa (vr 2) af)) af))))))),λds A R h hl=>?_⟩;obtain⟨ns,t,r,xs,n,rfl,f,d,e,j,k,q⟩:=h;have p:=uX.mpr e;refine nj d ⟨rfl,ns,t,_,n,rfl,j,k,ω,λi A' h0 h1 b t'=>?_⟩;obtain⟨v,l,m⟩:=zS h0 h1;exact jg (b r _ f d) l (q v A' m b t')
theorem lO.Tt{P:Program}{w:World}{K:Frag}{mg:aA}{base:Heap}{x:Str}{st:Stmt}{N ps:Ap}{k:Nat}{sp:Sp}{f:Addr}{fd:FuncData}(F:lO K x x st f fd)(S:bq N ps (aK st))(len:∀vs H Q E,sp vs H Q E->vs.length=ps.length)
  (b:∀(f:Addr) (a:Value) (A:Around) (outer:Fh) (s:Shared) (H:Hp) (vs:Bn) (Q:VK) (E:XK),dW k (A.deeper (envOfC x (aK st) s.heap.objs.size f a))->sp vs H Q E->
   ∃t,dw (cR (bU P w) P w K mg base N x (aK st) f a A outer s H E) (ig st) t/\t {nx:=λ_ H'=>Q .aG H',rt:=Q} (start N vs) H):f9 P w K mg base (bU P w) (k+1) f fd ps sp:=by
 obtain⟨h,i,kV,doc,pm,an,a,ct,e,rfl,lk,c⟩:=F.ex;exact F_ lk c S len λA outer s H vs Q E g d=>b f a A outer s H vs Q E g d
theorem P6{P:Program}{w:World}{K:Frag}{mg:aA}{base:Heap}{x:Str}{st:Stmt}{Nm ps:Ap}{k n:Nat}{S:Ct}{u:Addr}{fd:FuncData}(T:lO K x x st u fd)(Sc:bq Nm ps (aK st))(F:ps.length=n)(X:ps.length<=Nm.length)
  (j:∀(N:En) (RE:DX) (f:Addr) (g:Value) (B:Around) (outer:Fh) (s:Shared) (H:Hp) (E:XK),dW k (cR (bU P w) P w K mg base Nm x (aK st) f g B outer s H E).A->
   Raises (cR (bU P w) P w K mg base Nm x (aK st) f g B outer s H E) (EL mg N RE)->Passes (bU P w) (cR (bU P w) P w K mg base Nm x (aK st) f g B outer s H E) (EL mg N RE)->
   ∀ds A R,S ds A R RE->ds.length=n->∃m,dw (cR (bU P w) P w K mg base Nm x (aK st) f g B outer s H E) (ig st) (cQ mg N m)/\m {nx:=λ_ A'=>R .aG A',rt:=R} (j7 (Nm.length - n) ds) A):f9 P w K mg base (bU P w) (k+1) u fd ps (au mg n S):=by
 refine T.Tt Sc (λvs H Q E h=> ?_) λf g A outer s H vs Q E G h=> ?_
 .obtain⟨A,ι,ds,R,RE,hl,_,o,_⟩:=h
  rw[<-ao.length o,hl,F]
 .obtain⟨p,l,ds,R,RE,hl,ra,o,J,y,L⟩:=h
  have D:∀C a H',EL mg ⟨p,l,H⟩ RE C a H'->E C none H':=λC a H' z=>by
   obtain⟨c,A',ι',⟨b,rfl,hc⟩,ex,r,q⟩:=z
   exact L c A' ι' H' b q hc ex r
  obtain⟨m,M,O⟩:=j ⟨p,l,H⟩ RE f g A outer s H E G
   (λae σ H1 t e h' C args I U z=>IZ ae σ H1 t e h' C args I U (D _ _ _ z))
   (λae σ H1 t e s' I z=>Ib ae σ H1 t e s' I (by
    obtain⟨a,C,H',h1,h2,V⟩:=z
    exact⟨a,C,H',h1,h2,D _ _ _ V⟩)) ds p R J hl
  have W:=ao.length o
  refine⟨_,M,p,l,_,_,⟨ra,⟨?_,λi d q=> ?_⟩,ra.refl⟩,O,⟨λτ A' ι' σ H' q e r _=>y _ A' ι' H' _ q e r rfl,y,λ_ _ _ _ _ q _ _ _=>q.elim,λ_ _ _ _ _ q _ _ _=>q.elim⟩⟩
  .simp[j7,L2.start]
   omega
  .obtain⟨v,h1,h2⟩:=ao.get o (wM ds _ i d q)
   refine⟨v,?_,h2⟩
   have hi:=(bP.mp h1).1
   unfold L2.start
   rw[gW (by simpa using hi),bM,h1]
   rfl
def DJ:Ct:=λds A R _=>∃ns,ds=[.fl ns]/\∀A',R (.bl true) A'
noncomputable def rA:Sp:=λvs H Q _=>∃(a:Addr) (o:Obj) (ns:DD),vs=[.ref a]/\H a=some (.bZ o (.lst (ns.map V.int)))/\∀H',Q (.bl true) H'
theorem W9{mg:aA}{vs:Bn}{H:Hp}{Q:VK}{E:XK}(h:rA vs H Q E):au mg 1 DJ vs H Q E:=by
 obtain⟨a,o,ns,rfl,h,q⟩:=h;refine⟨[],λ_=>a,[.fl ns],λv _=>v=.bl true,λ_ _=>False,rfl,⟨λr c h=>by simp at h,λr s b=>by simp at b⟩,⟨_,[],rfl,⟨a,o,rfl,h⟩,rfl⟩,⟨ns,rfl,λ_=>rfl⟩,λv A' ι' H' u e _ _ r=>?_,λ_ _ _ _ _ z=>z.elim⟩;subst e;cases r;exact q _
def pB(o:Obj):Bool:=match o.cls with
 |.type t=> !(decide (t="list"))
 |_=>true
theorem Te{K:Frag}(h:K.all (λp=>pB p.2)=true){a:Addr}{o:Obj}(e:K.lookup a=some o):pB o=true:=by
 induction K with
 |nil=>cases e
 |cons p r b=>
  have h':pB p.2=true/\List.all r (λp=>pB p.2)=true:=by simpa using h
  rw[List.lookup] at e;split at e
  .cases e
   exact h'.1
  .exact b h'.2 e
theorem P8{K:Frag}(b:K.all (λp=>pB p.2)=true){H:Hp}{a:Addr}{ns:DD}(d:vt H)(f:aU K H a (ns.map V.int)):rA [.ref a] H (λv _=>v=.bl true) λ_ _ _=>False:=by
 rcases f with (e|⟨o,e⟩)|⟨o,its,n,e,c,_⟩
 .rcases d a with z|⟨o,xs,z⟩
  .rw[z] at e;cases e
  .rw[z] at e;cases e
 .exact⟨a,o,ns,rfl,e,λ_=>rfl⟩
 .have:=Te b e
  unfold pB at this;rw[c] at this;simp at this
theorem pw_len:∀(ys ss:Ap),ys.Pairwise strLt->(∀x∈ys,x∈ss)->ys.length<=ss.length
 |[],_,_,_=>cA _
 |y::r,ss,d,a=>by
  have p:=i8.mp d;have b:=a y (bA ..);have:=pw_len r (ss.erase y) p.2 λx c=>(List.mem_erase_of_ne (Cm (p.1 x c)).symm).mpr (a x (bz _ c));rw[List.length_erase_of_mem b] at this;have:=List.length_pos_of_mem b;simp;omega
def DM:Ct:=λds A R _=>∃r xs,ds=[.ref r]/\A[r]?=some (.lst (xs.map fq))/\xs.length<=32/\(∀x∈xs,ql x)/\xs≠[]/\∀A' q,Gr A A'->A'[q]?=some (.lst ((lw xs).map D.int))->A.length<=q->R (.ref q) A'
structure Fb(kvs:List (Key×D))(ns:Ap)(s:Str->Rat):Prop where
 keys:kvs.map (·.1)=ns.map Sum.inr
 nd:ns.Nodup
 get:∀n∈ns,bF kvs (Sum.inr n)=some (fq (s n))
def DN:Ct:=λds A R _=>∃(r:Nat) (kvs:List (Key×D)) (ns:Ap) (s:Str->Rat),ds=[.ref r]/\A[r]?=some (.dct kvs)/\Fb kvs ns s/\ns.length<=32/\ns≠[]/\(∀n∈ns,ql (s n))/\∀(A':Ar) (ys:Ap),Gr A A'->ys.Pairwise strLt->(∀x,x∈ys↔x∈ns)->R (iQ (ys.zip (lw (ys.map s)))) A'
theorem Ge:∀(ps:List (Str×D)) (acc:List (Key×D)) (ns:Ap),acc.map (·.1)=ns.map Sum.inr->ns.Nodup->
  ∃d:Ap,((ps.map λp=>((Sum.inr p.1:Key),p.2)).foldl (λacc p=>cP acc p.1 p.2) acc).map (·.1)=d.map Sum.inr/\d.Nodup/\(∀n,n∈d↔n∈ns\/n∈ps.map (·.1))
 |[],acc,ns,h1,h2=>⟨ns,h1,h2,λn=>θ⟩
 |p::ps,acc,ns,h1,h2=>by
  have key:∃f:Ap,(cP acc (Sum.inr p.1) p.2).map (·.1)=f.map Sum.inr/\f.Nodup/\∀n,n∈f↔n∈ns\/n=p.1:=by
   by_cases j:(acc.any λc=>decide (c.1=(Sum.inr p.1:Key)))=true
   .have e:cP acc (Sum.inr p.1) p.2=acc.map λc=>if c.1=(Sum.inr p.1:Key) then (c.1,p.2) else c:=by
     unfold cP;rw[aC j]
    refine⟨ns,?_,h2,λn=>?_⟩
    .rw[e,bH,<-h1]
     refine rN λc _=>?_;show(if c.1=(Sum.inr p.1:Key) then (c.1,p.2) else c).1=c.1;split<;>rfl
    .have g:p.1∈ns:=by
      obtain⟨c,i,m⟩:=nQ.mp j;have:c.1∈acc.map (·.1):=dN i;rw[h1,fY m] at this;obtain⟨x,o,e⟩:=aS.mp this;rw[<-Sum.inr.inj e];exact o
     constructor
     .exact .inl
     .rintro (h|rfl)
      .exact h
      .exact g
   .have e:cP acc (Sum.inr p.1) p.2=acc++[(Sum.inr p.1,p.2)]:=by
     unfold cP;rw[ay j]
    have k:p.1∉ns:=λg=>j (by
     have:(Sum.inr p.1:Key)∈acc.map (·.1):=by rw[h1];exact dN g
     obtain⟨c,i,e⟩:=aS.mp this;exact nQ.mpr ⟨c,i,dc e⟩)
    refine⟨ns++[p.1],by rw[e];simp[h1],?_,λn=>θ⟩;rw[nK];refine⟨h2,θ,λa l b q=>?_⟩;rw[bS.mp q];exact λz=>k (by rw[<-z];exact l)
  obtain⟨f,k1,k2,k3⟩:=key;obtain⟨d,r,s,t⟩:=Ge ps _ f k1 k2;refine⟨d,r,s,λn=>?_⟩;rw[t,k3];simp[or_assoc]
def nA(p:Str×Str×Rat):D:=.tup [.str p.2.1,fq p.2.2]
theorem BP:∀a:List (Str×Str×Rat),fO (a.map nA)=some ((a.map λp=>(p.2.1,fq p.2.2)).map λp=>((Sum.inr p.1:Key),p.2))
 |[]=>rfl
 |r::a=>by
  have:=BP a;simp only[cJ,nA,fO,gw,this]
theorem Aj{A:Ar}{r:Nat}{xs:Bi}{ps:List (Key×D)}{R:DK}(h:A[r]?=some (.lst xs))(a:fO xs=some ps)(hl:ps.length<=1000)(k:R (.ref A.length) (A++[.dct (nD ps)])):vR r A R:=by
 unfold vR;simp only[h];unfold dctP;rw[a];exact⟨hl,k⟩
theorem CM{rs:List (Str×Int)}(b:(rs.map (·.1)).Nodup){r:Str×Int}(h:r∈rs):val rs r.1=r.2:=by
 unfold val;induction rs with
 |nil=>cases h
 |cons p rs c=>
  have a:=lD.mp (show(p.1::rs.map (·.1)).Nodup from b);rcases bx.mp h with rfl|h
  .simp
  .have:¬p.1=r.1:=λz=>a.1 (by rw[z];exact dN h)
   rw[List.find?_cons_of_neg (by simpa using this)];exact c a.2 h
theorem Pf(T:TopD K mg "least_whole" JV xP)(k:av P w K mg base 1 "greatest_divisor" uo (au mg 2 zC)):av P w K mg base 2 "least_whole" xP (au mg 1 DM):=by
 refine bW T WC λO hR S F nd=>⟨_,(aE (dS 1 nd aj)
  (aE (d8 dM rfl (cj (vr 0)) (dG 2 nd) (aD (dS 1 nd (oH (dQ (vr 1) (dX F (vr 2) aj)) (dL k O S (aa (vr 1) (aa (dX F (vr 2) aj) af)))))))
  (aE (vZ none (own:=["fraction"]) (aw:=["bottom"]) (ix:=[1]) (i:=3) nd rfl (by first|exact Or.inl rfl|exact Or.inr rfl) rfl (cj (vr 0)) (λc=>(pG 0 (η:(["fraction","bottom"]:Ap).Nodup))) (λc=>(dQ (dX F (vr 0) aj) (oH (vr 1) (dX F (vr 0) aj)))))
  (aE (dS 4 nd aj)
  (aE (d8 dM rfl (cj (vr 3)) (dG 5 nd) (aD (dS 4 nd (dL k O S (aa (vr 4) (aa (vr 5) af))))))
  (aD (aP (fk none (own:=["number"]) (aw:=["divisor"]) (ix:=[4]) rfl (cj (vr 3)) (λc=>(pG 0 (η:(["number","divisor"]:Ap).Nodup))) (λc=>(oH (vr 0) (vr 1))))))))))),λds A R h hl=>?_⟩
 obtain⟨r,xs,rfl,H,l,ar,I,q⟩:=h;have hz:(1000:Nat)<=sizeLine:=δ
 have Mt:(1152921504606846976:Int)<2 ^ 64:=δ
 obtain⟨b0,_,b3⟩:=ow xs 1 δ;refine dJ H ?_;refine eF (λrest τ A'=>∃(pre j:Fs) (x:Option D),rest=j.map fq/\τ=[some (.ref r),some (.int (bot pre 1)),x,none,none,none]/\pre++j=xs/\Gr A A') ?_ ?_ ?_ _ _ _ ⟨[],xs,none,rfl,rfl,rfl,Gr.refl⟩
 .rintro rest τ A' ⟨pre,j,x,_,_,_,g⟩
  exact g.get H
 .rintro v rest τ A' ⟨pre,j,x,e,rfl,o,g⟩ Nx J
  cases j with
  |nil=>cases e
  |cons y j=>
   cases e;have t:=ar y (by rw[<-o];simp);have G:=ck y;have U:=t.den;obtain⟨V,_,_⟩:=ow pre 1 δ;have W:0<(Int.gcd (bot pre 1) (rf y).2:Int):=by
    have:=Int.gcd_pos_of_ne_zero_right (bot pre 1) (ω:(rf y).2≠0);omega
   have L:(Int.gcd (bot pre 1) (rf y).2:Int)<=(rf y).2:=le_of_dvd G (Int.gcd_dvd_right _ _);refine⟨.inr ⟨ω,ω⟩,rfl,_,⟨_,_,rfl,ω,ω,rfl⟩,λs h1=>⟨⟨W,Bw W (KH ω)⟩,?_⟩⟩;refine J _ _ ⟨pre++[y],j,some (fq y),rfl,?_,by simpa using o,g.trans h1⟩;rw[Em];rfl
 rintro τ s ⟨pre,j,x,e,rfl,o,L⟩;cases j with
 |cons p j=>cases e
 |nil=>
 have o:pre=xs:=by simpa using o
 subst o;have u:=L.get H;refine dJ u ?_;refine gb (f:=λd=>match d with|.tup [.int a,.int b]=>.int (a*(bot pre 1/b))|d=>d) u _ _ (λd hd=>?_) (by simp;omega) ?_
 .obtain⟨y,hy,rfl⟩:=aS.mp hd
  have t:=ar y hy;have x1:=cW t.pos;have G:=ck y;have U:=t.den;have x4:=t.num;exact⟨[fq y],rfl,λQ M=>⟨⟨G,Bw G (KH U)⟩,.inl ⟨ω,ω⟩,M⟩⟩
 have eu:(pre.map fq).map (λd=>match d with|.tup [.int a,.int b]=>D.int (a*(bot pre 1/b))|d=>d)=(ups pre).map D.int:=by
  unfold ups;rw[bH,bH];rfl
 rw[d_,eu];have z:(ups pre).length=pre.length:=by simp[ups]
 have N:=aI (A:=s) (c:=C.lst ((ups pre).map D.int));have g2:Gr s (s++[C.lst ((ups pre).map D.int)]):=Gr.push;generalize Qo:s++[C.lst ((ups pre).map D.int)]=A2 at*
 refine dJ N ?_;refine eF (λrest τ A'=>∃(m j:DD) (y:Option D),rest=j.map D.int/\τ=[some (.ref r),some (.int (bot pre 1)),x,some (.ref s.length),some (.int (eY m 0)),y]/\m++j=ups pre/\Gr A2 A') ?_ ?_ ?_ _ _ _ ⟨[],ups pre,none,rfl,rfl,rfl,Gr.refl⟩
 .rintro rest τ A' ⟨m,j,y,_,_,_,g⟩
  exact g.get N
 .rintro v rest τ A' ⟨m,j,y,e,rfl,hd,g⟩ Nx J
  cases j with
  |nil=>cases e
  |cons n j=>
   cases e;obtain⟨X,_⟩:=Lg ar l (show n∈ups pre by rw[<-hd];simp);obtain⟨V,_⟩:=tG m 0 (pX 0);refine⟨rfl,_,⟨_,_,rfl,V,ω,rfl⟩,λY h3=>?_⟩;refine J _ _ ⟨m++[n],j,some (.int n),rfl,?_,by simpa using hd,g.trans h3⟩;rw[Gu];rfl
 rintro τ Y ⟨m,j,y,e,rfl,hd,Z⟩;cases j with
 |cons p j=>cases e
 |nil=>
 have hd:m=ups pre:=by simpa using hd
 subst hd;obtain⟨n0,B⟩:∃n,n∈ups pre:=by
  cases e:ups pre with
  |nil=>
   rw[e] at z;exact absurd (List.length_eq_zero_iff.mp z.symm) I
  |cons n r=>exact⟨n,θ⟩
 obtain⟨X,u1⟩:=Lg ar l B;obtain⟨d0,d1⟩:=wg (pX 0) B X;have E:=Z.get N;refine dJ E ?_;refine gb (f:=λd=>match d with|.int n=>.int (n/eY (ups pre) 0)|d=>d) E _ _ (λd hd=>?_) (by simp;omega) ?_
 .obtain⟨n,hn,rfl⟩:=aS.mp hd
  exact⟨[.int n],rfl,λQ M=>⟨⟨d0,Bw d0 (eN d1 u1)⟩,M⟩⟩
 have el:((ups pre).map D.int).map (λd=>match d with|.int n=>D.int (n/eY (ups pre) 0)|d=>d)=(lw pre).map D.int:=by
  unfold lw;rw[bH,bH];rfl
 rw[d_,el];have gg:Gr A Y:=(L.trans g2).trans Z;exact q _ _ (gg.trans Gr.push) aI gg.len
theorem Ph(T:TopD K mg "least_weights" JU xO)(b:mg "sorted"=none)(g:mg "tuple"=none)(i:mg "zip"=none)(a:av P w K mg base 2 "least_whole" xP (au mg 1 DM)):av P w K mg base 3 "least_weights" xO (au mg 1 DN):=by
 refine bW T WB λE J k F nd=>⟨_,(aE (dS 1 nd (dz (ML rfl) NP b boot_sorted (aa (vr 0) af)))
  (aD (aP (N2 g i rfl (aa (vr 1) (aa (dL a E k (aa (fk none (own:=[κl]) (aw:=[κs]) (ix:=[0]) rfl (cj (vr 1)) (λc=>(pG 0 (η:([κl,κs]:Ap).Nodup))) (λc=>(dX F (vr 1) (vr 0)))) af)) af)))))),λds A R h hl=>?_⟩
 obtain⟨r,kvs,ns,j,rfl,v,o,y,s,ar,q⟩:=h;have hz:(1000:Nat)<=sizeLine:=δ
 refine WV v o.keys o.nd ω λys B l=>?_;have L:=pw_len ys ns B λx k=>(l x).mp k;refine dJ aI ?_;refine gb (f:=λd=>match d with|.str n=>fq (j n)|d=>d) aI _ _ (λd hd=>?_) (by simp;omega) ?_
 .obtain⟨n,u,rfl⟩:=aS.mp hd
  exact⟨[.str n],rfl,λQ G=>e9 (getElem?_push v) rfl (o.get n ((l n).mp u)) G⟩
 have e:(ys.map D.str).map (λd=>match d with|.str n=>fq (j n)|d=>d)=(ys.map j).map fq:=by
  rw[bH,bH];rfl
 rw[d_,e];have m:ys≠[]:=λz=>by
  cases e:ns with
  |nil=>exact s e
  |cons n t=>
   have:=(l n).mpr (by rw[e];simp);rw[z] at this;cases this
 refine⟨rfl,_,ys.map j,rfl,aI,by simp;omega,λx k=>?_,by simpa using m,λM N C H _=>?_⟩
 .obtain⟨n,u,rfl⟩:=aS.mp k
  exact ar n ((l n).mp u)
 refine Ys (C.get (getElem?_push aI)) H ?_;have I:(((ys.map D.str).zip ((lw (ys.map j)).map D.int)).map λp=>D.tup [p.1,p.2])=(ys.zip (lw (ys.map j))).map cX:=by
  rw[List.zip_map,bH];rfl
 rw[I];exact q _ ys (((Gr.push.trans Gr.push)).trans C) B l
abbrev Tb:=List (Str×Rat)
abbrev _root_.Bz:=List Tb
abbrev bg:=Nat×Str×Str
abbrev bf:=List (Str×List bg)
def bE(s:bg):D:=.tup [.int ((s.1:Nat):Int),.str s.2.1,.str s.2.2]
def ai(T:Tb):Ap:=T.map (·.1)
def bB(T:Tb):List (Key×D):=T.map λp=>((Sum.inr p.1:Key),fq p.2)
noncomputable def aB(T:Tb)(n:Str):Rat:=match T.find? (λp=>decide (p.1=n)) with
 |some p=>p.2
 |none=>0
def ir(n:Str)(p:Tb×Nat):List bg:=if n∈ai p.1 then (ai p.1).map (λo=>(p.2,n,o)) else []
def eL(Ts:Bz)(n:Str):List bg:=Ts.zipIdx.flatMap (ir n)
def c9(P:bf)(n:Str):List bg:=match P.find? (λp=>decide (p.1=n)) with
 |some p=>p.2
 |none=>[]
def aH(P:bf):Ap:=P.map (·.1)
def cM(P:bf)(s:bg):bf:=if s.2.2∈aH P then P else P++[(s.2.2,c9 P s.2.1++[s])]
noncomputable def eE(Ts:Bz):Nat->Nat->bf->bf
 |0,_,P=>P
 |f+1,i,P=>match P[i]? with
  |some p=>eE Ts f (i+1) ((eL Ts p.1).foldl cM P)
  |none=>P
def aY(Ts:Bz)(n:Str):bf:=eE Ts 14 0 [(n,[])]
structure h_(T:Tb):Prop where
 nd:(ai T).Nodup
 ne:T≠[]
 len:T.length<=32
 P7:∀p∈T,zg p.2
structure d7(Ts:Bz)(NN:Ap):Prop where
 len:Ts.length<=7
 tok:∀T∈Ts,h_ T
 nn:NN.length<=12
 sub:∀T∈Ts,∀n∈ai T,n∈NN
theorem wh:∀(T:Tb) (n:Str),bF (bB T) (Sum.inr n)=(T.find? (λp=>decide (p.1=n))).map (λp=>fq p.2)
 |[],n=>rfl
 |p::T,n=>by
  show(if (Sum.inr p.1:Key)=Sum.inr n then some (fq p.2) else bF (bB T) (Sum.inr n))=_;by_cases h:p.1=n
  .rw[aC (by rw[h]),List.find?_cons_of_pos (by simpa using h)]
   rfl
  .rw[ay (λz=>h (Sum.inr.inj z)),List.find?_cons_of_neg (by simpa using h)]
   exact wh T n
theorem find_some{β:Type}{T:List (Str×β)}{n:Str}:(T.find? (λp=>decide (p.1=n))).isSome=decide (n∈T.map (·.1)):=by
 rw[nI,List.find?_isSome,qa];constructor
 .rintro ⟨p,a,h⟩
  rw[<-fY h];exact dN a
 .intro h
  obtain⟨p,a,e⟩:=aS.mp h;exact⟨p,a,dc e⟩
theorem wj(T:Tb)(n:Str):(bF (bB T) (Sum.inr n)).isSome=decide (n∈ai T):=by
 rw[wh,isSome_map];exact find_some
theorem iF{T:Tb}{n:Str}(h:n∈ai T):bF (bB T) (Sum.inr n)=some (fq (aB T n)):=by
 have:=find_some (T:=T) (n:=n);rw[dc (show n∈T.map (·.1) from h)] at this;obtain⟨p,a⟩:=pQ.mp this;rw[wh,a];unfold aB;rw[a];rfl
theorem qQ(T:Tb):(bB T).map (·.1)=(ai T).map Sum.inr:=by
 unfold bB ai;rw[bH,bH];rfl
theorem G6(T:Tb):((bB T).map λp=>keyOf p.1)=(ai T).map D.str:=by
 unfold bB ai;rw[bH,bH];rfl
theorem mC{T:Tb}(h:h_ T){n:Str}(b:n∈ai T):zg (aB T n):=by
 have:=find_some (T:=T) (n:=n);rw[dc (show n∈T.map (·.1) from b)] at this;obtain⟨p,a⟩:=pQ.mp this;unfold aB;rw[a];exact h.P7 p (jJ a)
theorem sN(P:bf)(s:bg):∀n,n∈aH (cM P s)↔n∈aH P\/n=s.2.2:=λn=>by
 unfold cM;split
 .rename_i h
  constructor
  .exact .inl
  .rintro (h'|rfl)
   .exact h'
   .exact h
 .simp[aH]
theorem Mg{P:bf}(s:bg)(h:(aH P).Nodup):(aH (cM P s)).Nodup:=by
 unfold cM;split
 .exact h
 .rename_i d
  unfold aH;rw[di,nK];refine⟨h,θ,λa e b c=>?_⟩;simp at c;rw[c];exact λz=>d (by rw[<-z];exact e)
theorem j5:∀(xs ys:Ap),xs.Nodup->(∀x∈xs,x∈ys)->xs.length<=ys.length:=by
 intro xs;induction xs with
 |nil=>intro ys _ _;exact cA _
 |cons x r e=>
  intro ys f b;have a:=lD.mp f;have c:=b x (bA ..);have:=e (ys.erase x) a.2 λy d=>(List.mem_erase_of_ne (λz=>a.1 (by rw[<-z];exact d))).mpr (b y (bz _ d));rw[List.length_erase_of_mem c] at this;have:=List.length_pos_of_mem c;simp;omega
theorem o9{Ts:Bz}{n:Str}{s:bg}:s∈eL Ts n↔∃T,Ts[s.1]?=some T/\n∈ai T/\s.2.1=n/\s.2.2∈ai T:=by
 unfold eL;rw[fX];constructor
 .rintro ⟨⟨T,i⟩,b,a⟩
  have b:=rP.mp b;unfold ir at a;split at a
  .rename_i c
   obtain⟨o,d,rfl⟩:=aS.mp a;exact⟨T,b,c,rfl,d⟩
  .cases a
 .rintro ⟨T,f,c,e,d⟩
  refine⟨(T,s.1),rP.mpr f,?_⟩;unfold ir;rw[aC c];exact aS.mpr ⟨s.2.2,d,by rw[<-e]⟩
theorem AG:∀(ss:List bg) (P:bf) (n:Str),n∈aH (ss.foldl cM P)↔n∈aH P\/n∈ss.map (·.2.2)
 |[],P,n=>by simp
 |s::ss,P,n=>by
  rw[gF,AG ss,sN];simp[or_assoc]
theorem Mh(P:bf)(s:bg):∃X,cM P s=P++X:=by
 unfold cM;split
 .exact⟨[],θ⟩
 .exact⟨_,rfl⟩
theorem wc:∀(ss:List bg) (P:bf),∃X,ss.foldl cM P=P++X
 |[],P=>⟨[],θ⟩
 |s::ss,P=>by
  obtain⟨X,e⟩:=Mh P s;obtain⟨Y,a⟩:=wc ss (cM P s);exact⟨X++Y,by rw[gF,a,e,nR]⟩
def TabAt(A:Ar)(t:Nat)(T:Tb):Prop:=A[t]?=some (.dct (bB T))\/∃o,A[t]?=some (.bV o (bB T))
def TabsAt(A:Ar):B2->Bz->Prop
 |[],[]=>True
 |t::ts,T::Ts=>TabAt A t T/\TabsAt A ts Ts
 |_,_=>False
def iM(A:Ar)(r:Nat)(Ts:Bz):Prop:=∃ts,A[r]?=some (.lst (ts.map D.ref))/\TabsAt A ts Ts
theorem TabAt.gr{A B:Ar}{t:Nat}{T:Tb}(h:TabAt A t T)(g:Gr A B):TabAt B t T:=by
 rcases h with h|⟨o,h⟩
 .exact .inl (g.get h)
 .exact .inr ⟨o,g.get h⟩
theorem TabsAt.gr{A B:Ar}(g:Gr A B):∀{a:B2} {Ts:Bz},TabsAt A a Ts->TabsAt B a Ts
 |[],[],_=>trivial
 |t::a,T::Ts,h=>⟨h.1.gr g,TabsAt.gr g h.2⟩
 |[],_::_,h=>h.elim
 |_::_,[],h=>h.elim
theorem TabsAt.len{A:Ar}:∀{a:B2} {Ts:Bz},TabsAt A a Ts->a.length=Ts.length
 |[],[],_=>rfl
 |t::a,T::Ts,h=>by simp[TabsAt.len h.2]
 |[],_::_,h=>h.elim
 |_::_,[],h=>h.elim
theorem TabsAt.get{A:Ar}:∀{a:B2} {Ts:Bz} {i t:Nat},TabsAt A a Ts->a[i]?=some t->∃T,Ts[i]?=some T/\TabAt A t T
 |[],[],i,t,_,e=>by simp at e
 |t::a,T::Ts,0,_,h,e=>by
  simp at e;subst e;exact⟨T,rfl,h.1⟩
 |t::a,T::Ts,i+1,_,h,e=>by
  obtain⟨b,h1,h2⟩:=TabsAt.get (i:=i) h.2 (by simpa using e);exact⟨b,by simpa using h1,h2⟩
 |[],_::_,_,_,h,_=>h.elim
 |_::_,[],_,_,h,_=>h.elim
theorem iM.gr{A B:Ar}{r:Nat}{Ts:Bz}(h:iM A r Ts)(g:Gr A B):iM B r Ts:=by
 obtain⟨a,h1,h2⟩:=h;exact⟨a,g.get h1,h2.gr g⟩
theorem Gg{τ:bQ}{A:Ar}{j t:Nat}{ix:B2}{te:aO}{R:DK}{T:Tb}(f:D->D)(g:lk τ j=some (.ref t))(l:TabAt A t T)(hl:T.length<=1000)
  (b:∀A':Ar,∀o∈ai T,∀Q:DK,Q (f (.str o)) A'->te ([some (.str o)]++ix.map (lk τ)) A' Q)(k:R (.ref A.length) (A++[.lst ((ai T).map λo=>f (.str o))])):ER (ic none ix (tO (aT j)) iu te) τ A R:=by
 have hz:(1000:Nat)<=sizeLine:=δ
 have c:(ai T).length=T.length:=by simp[ai]
 have em:((bB T).map λp=>keyOf p.1)=(ai T).map D.str:=G6 T;have go:∀(A':Ar) (o:Obj) (d:DK),A'[t]?=some (.bV o (bB T))->d (.ref A'.length) (A'++[.lst ((ai T).map λo=>f (.str o))])->ic none ix (tO (aT j)) iu te τ A' d:=λA' o d h' m=>by
  unfold ic tO aT;rw[g];refine Bg h' ?_;rw[em];refine gb (f:=f) h' _ _ (λx q=>?_) (by simp[c];omega) ?_
  .obtain⟨n,r,rfl⟩:=aS.mp q
   exact⟨[.str n],rfl,λQ s=>b A' n r Q s⟩
  .rw[d_,bH]
   exact m
 rcases l with h|⟨o,h⟩
 .have a:=dB h
  refine .inl ⟨t,bB T,h,λo=>go _ o _ (fy a) ⟨bB T,?_,?_⟩⟩
  .rw[gW (by simpa using a)]
   exact fy a
  .have e:(A.set t (.bV o (bB T))++[C.lst ((ai T).map λo=>f (.str o))]).set t (.dct (bB T))=A++[.lst ((ai T).map λo=>f (.str o))]:=by
    rw[yQ _ _ (by simpa using a),set_set];congr 1;refine sf λi=>?_;by_cases hi:i=t
    .rw[hi,fy a,h]
    .rw[fH (Ne.symm hi)]
   rw[e];have u:(A.set t (C.bV o (bB T))).length=A.length:=θ
   rw[u];exact k
 .exact .inr (go A o R h k)
def D0:Ct:=λds A R _=>∃r n Ts,ds=[.ref r,.str n]/\iM A r Ts/\Ts.length<=7/\(∀T∈Ts,T.length<=32)/\∀A' q,Gr A A'->A'[q]?=some (.lst ((eL Ts n).map bE))->A.length<=q->R (.ref q) A'
theorem qF(ds:Bi):(iR ds).length=ds.length:=by simp[iR]
theorem FL{ds:Bi}{i:Nat}{x:D}(h:ds[i]?=some x):(iR ds)[i]?=some (.tup [.int ((i:Nat):Int),x]):=by
 unfold iR;rw[bM,C0,h];simp
theorem Ln{Ts:Bz}{i:Nat}{T:Tb}(h:Ts[i]?=some T):Ts.zipIdx.take (i+1)=Ts.zipIdx.take i++[(T,i)]:=by
 rw[take_succ,C0,h];simp
theorem Xg(n:Str)(p:Tb×Nat)(h:p.1.length<=32):(ir n p).length<=32:=by
 unfold ir;split
 .simp[ai];exact h
 .simp
theorem F8(n:Str):∀(l:List (Tb×Nat)),(∀p∈l,p.1.length<=32)->(l.flatMap (ir n)).length<=32*l.length
 |[],_=>by simp
 |p::l,h=>by
  have h1:=F8 n l λq a=>h q (bz _ a);have h2:=Xg n p (h p (bA ..));rw[sq,dZ,iw];omega
theorem PR(T:TopD K mg "steps_from" Kc xY)(a:mg "enumerate"=none):av P w K mg base 1 "steps_from" xY (au mg 2 D0):=by
 refine bW T WR λO S U E nd=>⟨_,(aE (dS 2 nd (dI af))
  (aE (d8 dM rfl (Fp a (aa (vr 0) af)) (oO rfl (gK (dG 3 nd) (gK (dG 4 nd) oQ))) (aD (bY (X3 E (vr 1) (vr 4)) (aD (fm (gJ gQ pT rS t_ sY (vr 2) (aa (Al (fk none (own:=[κk]) (aw:=[κq,κl]) (ix:=[3,1]) rfl (vU (vr 4)) (λc=>(pG 0 (η:([κk,κq,κl]:Ap).Nodup))) (λc=>(cE (aa (vr 1) (aa (vr 2) (aa (vr 0) af))))))) af)))) b_)))
  (aD (aP (vr 2))))),λds A R h hl=>?_⟩
 obtain⟨r,n,Ts,rfl,F,V,f,q⟩:=h;obtain⟨b,h1,h2⟩:=F;have hz:(1000:Nat)<=sizeLine:=δ
 have m:=h2.len;have len:∀i,((Ts.zipIdx.take i).flatMap (ir n)).length<=224:=λi=>by
  have:=F8 n (Ts.zipIdx.take i) λp G=>by
   have:=rP.mp (rO G);exact f _ (cS this)
  rw[nJ,yL] at this;omega
 refine⟨cA _,Be (getElem?_push h1) ?_⟩;refine eF (λrest τ A'=>∃(i:Nat) (x y:Option D),i<=b.length/\rest=(iR (b.map D.ref)).drop i/\τ=[some (.ref r),some (.str n),some (.ref A.length),x,y]/\A'[A.length]?=some (.lst (((Ts.zipIdx.take i).flatMap (ir n)).map bE))/\Gr A A') ?_ ?_ ?_ _ _ _ ⟨0,none,none,cA _,rfl,rfl,aI,Gr.push⟩
 .rintro rest τ A' ⟨i,x,y,_,_,_,_,g⟩
  exact g.get h1
 .rintro v rest τ H ⟨i,x,y,hi,e,rfl,hc,g⟩ W z
  by_cases j:i<b.length
  .obtain⟨t,B⟩:∃t,b[i]?=some t:=⟨b[i],a_ j⟩
   obtain⟨T,C,I⟩:=h2.get B;have k:=I.gr g;have d:i<(iR (b.map D.ref)).length:=by rw[qF,aQ];exact j
   have ev:=FL (ds:=b.map D.ref) (i:=i) (x:=.ref t) (by rw[bM,B];rfl);rw[nW d] at e;rw[a_ d] at ev;have ev:=Option.some.inj ev;rw[ev] at e;cases e;have l:∀L,L=ir n (T,i)->((Ts.zipIdx.take (i+1)).flatMap (ir n))=((Ts.zipIdx.take i).flatMap (ir n))++L:=λL J=>by
    rw[Ln C,sj,J];simp
   have ln:=len i;refine⟨rfl,GR k rfl ?_⟩;rw[ay cF,wj];refine cD (λc=>?_) (λc=>?_)
   .have s:ir n (T,i)=(ai T).map (λo=>(i,n,o)):=by unfold ir;rw[aC c]
    have M:=f T (cS C);have u:(ai T).length=T.length:=by simp[ai]
    refine⟨gf hc,Gg (λo=>.tup [.int ((i:Nat):Int),.str n,o]) rfl k ω (λA' o X Q N=>⟨(ω:3<=sizeLine),N⟩) ?_⟩;refine tF (getElem?_push hc) aI (by rw[aQ,aQ,u];omega) ?_;have em:((ai T).map λo=>D.tup [.int ((i:Nat):Int),.str n,.str o])=(ir n (T,i)).map bE:=by
     rw[s,bH];rfl
    refine z _ _ ⟨i+1,_,_,ω,rfl,rfl,?_,(g.trans Gr.push).set (aJ _)⟩;rw[l _ rfl,di,em];exact get_set (getElem?_push hc)
   .have s:ir n (T,i)=[]:=by unfold ir;rw[ay c]
    refine z _ _ ⟨i+1,_,_,ω,rfl,rfl,?_,g⟩;rw[l _ rfl,s,ko];exact hc
  .rw[ve (by rw[qF,aQ];omega)] at e
   cases e
 .rintro τ H ⟨i,x,y,hi,e,rfl,hc,g⟩
  have hi:i=b.length:=by
   have:=cB List.length e;simp[qF] at this;omega
  rw[hi,m,zc (by rw[yL];exact aJ _)] at hc;exact q _ _ g hc (aJ _)
theorem Hs{P X:bf}{n:Str}(h:n∈aH P):c9 (P++X) n=c9 P n:=by
 have:=find_some (T:=P) (n:=n);rw[dc (show n∈P.map (·.1) from h)] at this;obtain⟨p,a⟩:=pQ.mp this;unfold c9;rw[find?_append,a];rfl
theorem R_{P:bf}{n:Str}{l:List bg}(h:n∉aH P):c9 (P++[(n,l)]) n=l:=by
 have:=find_some (T:=P) (n:=n);rw[fh (show ¬n∈P.map (·.1) from h)] at this;have e:P.find? (λp=>decide (p.1=n))=none:=by
  cases e:P.find? (λp=>decide (p.1=n)) with
  |none=>rfl
  |some p=>rw[e] at this;cases this
 unfold c9;rw[find?_append,e];simp
theorem ji{P:bf}{n:Str}(h:n∈aH P):(n,c9 P n)∈P:=by
 have:=find_some (T:=P) (n:=n);rw[dc (show n∈P.map (·.1) from h)] at this;obtain⟨p,a⟩:=pQ.mp this;have h1:=jJ a;have h2:=qd a;unfold c9;rw[a];have h2:p.1=n:=fY h2;rw[<-h2];exact h1
def oi(b:Nat)(A:Ar)(P:bf):Prop:=∃kvs,A[b+1]?=some (.dct kvs)/\A[b+2]?=some (.lst ((aH P).map D.str))/\kvs.map (·.1)=(aH P).map Sum.inr/\∀n∈aH P,∃a,a≠b+2/\b<=a/\bF kvs (Sum.inr n)=some (.ref a)/\A[a]?=some (.lst ((c9 P n).map bE))
structure gu(P:bf)(NN:Ap):Prop where
 nd:(aH P).Nodup
 sub:∀n∈aH P,n∈NN
 pl:∀p∈P,p.2.length+1<=P.length
theorem gu.len{P:bf}{NN:Ap}(h:gu P NN):P.length<=NN.length:=by
 have:=j5 (aH P) NN h.nd h.sub;simpa[aH] using this
theorem gu.add{P:bf}{NN:Ap}(h:gu P NN){s:bg}(h1:s.2.1∈aH P)(h2:s.2.2∈NN):gu (cM P s) NN:=by
 refine⟨Mg s h.nd,λn a=>?_,λp hp=>?_⟩
 .rcases (sN P s n).mp a with h'|rfl
  .exact h.sub n h'
  .exact h2
 .unfold cM at hp ⊢
  split at hp
  .rename_i hc
   rw[aC hc];exact h.pl p hp
  .rename_i hc
   rw[ay hc,dZ];rcases cu.mp hp with hp|hp
   .have:=h.pl p hp
    simp;omega
   .rw[bS.mp hp]
    have:=h.pl _ (ji h1);simp at this ⊢;omega
def g_(lo:Nat)(A:Ar)(q:Nat)(P:bf):Prop:=lo<=q/\∃kvs,A[q]?=some (.dct kvs)/\kvs.map (·.1)=(aH P).map Sum.inr/\∀n∈aH P,∃a,lo<=a/\bF kvs (Sum.inr n)=some (.ref a)/\A[a]?=some (.lst ((c9 P n).map bE))
theorem g_.gr{A B:Ar}{lo q:Nat}{P:bf}(h:g_ lo A q P)(g:Gr A B):g_ lo B q P:=by
 obtain⟨h0,kvs,h1,h2,b⟩:=h;exact⟨h0,kvs,g.get h1,h2,λn c=>by obtain⟨a,z,x,y⟩:=b n c;exact⟨a,z,x,g.get y⟩⟩
theorem g_.set{A:Ar}{lo q t:Nat}{P:bf}{c:C}(h:g_ lo A q P)(g:t<lo):g_ lo (A.set t c) q P:=by
 obtain⟨h0,kvs,h1,h2,e⟩:=h;have b:∀(j:Nat) (d:C),lo<=j->A[j]?=some d->(A.set t c)[j]?=some d:=λj d i hd=>by
  rw[fH ω];exact hd
 exact⟨h0,kvs,b _ _ h0 h1,h2,λn f=>by obtain⟨a,z,x,y⟩:=e n f;exact⟨a,z,x,b _ _ z y⟩⟩
theorem g_.lo{A:Ar}{lo b q:Nat}{P:bf}(h:g_ lo A q P)(hl:b<=lo):g_ b A q P:=by
 obtain⟨h0,kvs,h1,h2,c⟩:=h;exact⟨ω,kvs,h1,h2,λn d=>by obtain⟨a,z,x,y⟩:=c n d;exact⟨a,ω,x,y⟩⟩
theorem oi.gr{A B:Ar}{b:Nat}{P:bf}(h:oi b A P)(g:Gr A B):oi b B P:=by
 obtain⟨kvs,h1,h2,c,d⟩:=h;exact⟨kvs,g.get h1,g.get h2,c,λn e=>by obtain⟨a,z,f,x,y⟩:=d n e;exact⟨a,z,f,x,g.get y⟩⟩
theorem Bh{kvs:List (Key×D)}{ns:Ap}{n:Str}(h:kvs.map (·.1)=ns.map Sum.inr):(bF kvs (Sum.inr n)).isSome=decide (n∈ns):=by
 induction kvs generalizing ns with
 |nil=>
  cases ns with
  |nil=>rfl
  |cons _ _=>cases h
 |cons p kvs a=>
  cases ns with
  |nil=>cases h
  |cons m ns=>
   rw[cJ,cJ,List.cons.injEq] at h;show(if p.1=Sum.inr n then some p.2 else bF kvs (Sum.inr n)).isSome=_;rw[h.1];by_cases e:m=n
   .rw[aC (by rw[e])]
    simp[e]
   .rw[ay (λz=>e (Sum.inr.inj z)),a h.2]
    simp[Ne.symm e]
theorem sR{Ts:Bz}{f i:Nat}{P:bf}{p:Str×List bg}(h:P[i]?=some p):eE Ts (f+1) i P=eE Ts f (i+1) ((eL Ts p.1).foldl cM P):=by
 show(match P[i]? with|some p=>eE Ts f (i+1) ((eL Ts p.1).foldl cM P)|none=>P)=_;rw[h]
theorem Mu{Ts:Bz}{f i:Nat}{P:bf}(h:P.length<=i):eE Ts f i P=P:=by
 cases f with
 |zero=>rfl
 |succ f=>
  show(match P[i]? with|some p=>eE Ts f (i+1) ((eL Ts p.1).foldl cM P)|none=>P)=_;rw[nZ h]
def zJ:Ct:=λds A R _=>∃r n Ts NN,ds=[.ref r,.str n]/\iM A r Ts/\d7 Ts NN/\n∈NN/\∀A' q,Gr A A'->g_ A.length A' q (aY Ts n)->R (.ref q) A'
theorem gy{A:Ar}{i j:Nat}{c d:C}(a:i≠j)(h:A[j]?=some d):(A.set i c)[j]?=some d:=by
 rw[fH a];exact h
theorem uK{A:Ar}{i:Nat}{c d:C}(h:A[i]?=some d):(A.set i c)[i]?=some c:=fy (dB h)
theorem RJ{kvs:List (Key×D)}{ns:Ap}{n:Str}{v:D}(h:kvs.map (·.1)=ns.map Sum.inr)(a:n∉ns):(cP kvs (Sum.inr n) v).map (·.1)=(ns++[n]).map Sum.inr:=by
 rw[Iz (λp b z=>?_)]
 .simp[h]
 .have:p.1∈kvs.map (·.1):=dN b
  rw[h,z] at this;obtain⟨m,c,e⟩:=aS.mp this;rw[<-Sum.inr.inj e] at a;exact a c
theorem Px(T:TopD K mg "paths_from" JZ xS)(B:mg "len"=none)(d:av P w K mg base 1 "steps_from" xY (au mg 2 D0)):av P w K mg base 2 "paths_from" xS (au mg 2 zJ):=by
 refine bW T WI λhr hR hx u nd=>⟨_,(aE (dS 2 nd (E7 (vr 1) (dI af)))
  (aE (dS 3 nd (dI (aa (vr 1) af)))
  (aE (dS 4 nd aj)
  (aE (As dM (rD (vr 4) (dz gI a3 B gS (aa (vr 3) af))) (aE (d8 dM rfl (cj (dL d hr hx (aa (vr 0) (aa (dX u (vr 3) (vr 4)) af)))) (dG 5 nd) (aD (bY (uR u (dX u (vr 5) aj) (vr 2)) (aE (Aq u (vr 2) (dX u (vr 5) aj) (dP (dX u (vr 2) (dX u (vr 5) aj)) (dI (aa (vr 5) af))) rfl)
  (aD (fm (gJ gQ pU p7 nv oG (vr 3) (aa (dX u (vr 5) aj) af))))) b_)))
  (aD (Oh (i:=4) nd rfl (by first|exact Or.inl rfl|exact Or.inr rfl) aj))))
  (aD (aP (vr 2))))))),λds A R h hl=>?_⟩
 obtain⟨r,n,Ts,NN,rfl,hB,ar,hn,q⟩:=h;have hz:(1000:Nat)<=sizeLine:=δ
 have e1:(A++[C.lst []]).length=A.length+1:=θ
 have e2:(A++[C.lst []]++[C.dct [(Sum.inr n,D.ref A.length)]]).length=A.length+2:=θ
 refine⟨cA _,(ω:1<=sizeLine),?_⟩;have tM:oi A.length (A++[C.lst []]++[C.dct [(Sum.inr n,D.ref A.length)]]++[C.lst [D.str n]]) [(n,[])]:=by
  refine⟨[(Sum.inr n,D.ref A.length)],?_,?_,rfl,λm hm=>⟨A.length,ω,aJ _,?_,?_⟩⟩
  .rw[<-e1];exact getElem?_push aI
  .rw[<-e2];exact aI
  .have:m=n:=by simpa[aH] using hm
   subst this;exact aC rfl
  .have:m=n:=by simpa[aH] using hm
   subst this;have e:c9 [(m,[])] m=[]:=by simp[c9]
   rw[e];exact getElem?_push (getElem?_push aI)
 refine⟨λk τ A'=>∃(i:Nat) (Q:bf) (x:Option D),k=13 - i/\τ=[some (.ref r),some (.str n),some (.ref (A++[C.lst []]).length),some (.ref (A++[C.lst []]++[C.dct [(Sum.inr n,D.ref A.length)]]).length),some (.int ((i:Nat):Int)),x]/\i<=Q.length/\oi A.length A' Q/\gu Q NN/\eE Ts (14 - i) i Q=aY Ts n/\Gr A A',⟨13,0,[(n,[])],none,rfl,rfl,θ,tM,⟨by simp[aH],λm hm=>by
   have:m=n:=by simpa[aH] using hm
   rw[this];exact hn,λp L=>by
   have:p=(n,[]):=by simpa using L
   rw[this];simp⟩,rfl,((Gr.push.trans Gr.push).trans Gr.push)⟩,?_⟩
 rw[e1,e2];rintro k τ A1 ⟨i,Q,x,rfl,rfl,hi,hS,hP,hb,Z⟩;have G8:Q.length<=12:=dF hP.len ar.nn;obtain⟨M,hd0,E,hk0,hv0⟩:=id hS;refine nj E ?_;have N:((aH Q).map D.str).length=Q.length:=by simp[aH]
 refine cD (λc=>?_) (λc=>?_)
 .rw[N] at c
  have c:i<Q.length:=ω
  obtain⟨p,L⟩:∃p,Q[i]?=some p:=⟨Q[i],a_ c⟩;have QO:p.1∈aH Q:=dN (cS L);refine⟨λτ A'=>∃(H:bf) (x:Option D),τ=[some (.ref r),some (.str n),some (.ref (A.length+1)),some (.ref (A.length+2)),some (.int ((i+1:Nat):Int)),x]/\i+1<=H.length/\oi A.length A' H/\gu H NN/\eE Ts (14 - (i+1)) (i+1) H=aY Ts n/\Gr A A',λbX A' ⟨H,x,h1,h2,O,h4,h5,h6⟩=>⟨13 - (i+1),ω,i+1,H,x,rfl,h1,h2,O,h4,h5,h6⟩,?_⟩;refine jg E (v:=.str p.1) (mY (by rw[bM];unfold aH;rw[bM,L];rfl)) ?_;refine⟨rfl,r,p.1,Ts,rfl,hB.gr Z,ar.len,λT hT=>(ar.tok T hT).len,λA2 q2 g2 h2 l2=>?_⟩;have gl:=Z.len;have lr:=dB E;refine dJ h2 ?_;refine eF (λrest τ A'=>∃(l b:List bg) (x:Option D),rest=b.map bE/\l++b=eL Ts p.1/\τ=[some (.ref r),some (.str n),some (.ref (A.length+1)),some (.ref (A.length+2)),some (.int ((i:Nat):Int)),x]/\oi A.length A' (l.foldl cM Q)/\gu (l.foldl cM Q) NN/\A'[q2]?=some (.lst ((eL Ts p.1).map bE))/\Gr A A') ?_ ?_ ?_ _ _ _ ⟨[],eL Ts p.1,x,rfl,rfl,rfl,hS.gr g2,hP,h2,Z.trans g2⟩
  .rintro rest τ A' ⟨l,b,x,_,_,_,_,_,h,_⟩
   exact h
  .rintro v rest τ S ⟨l,b,x,e,g,rfl,t,j,O,g3⟩ Nx hN
   cases b with
   |nil=>cases e
   |cons st b=>
   cases e;have hst:st∈eL Ts p.1:=by rw[<-g];simp
   obtain⟨T,hT,hn1,hn2,QK⟩:=o9.mp hst;obtain⟨kvs,hd,U,hk,hv⟩:=id t;have f:(l++[st]).foldl cM Q=cM (l.foldl cM Q) st:=by rw[nX];rfl
   generalize QB:l.foldl cM Q=o at*
   have F:st.2.1∈aH o:=by
    rw[<-QB,AG,hn2];exact .inl QO
   have VP:st.2.2∈NN:=ar.sub T (cS hT) _ QK;have l3:o.length<=12:=dF j.len ar.nn;refine oY hd rfl ?_;rw[aC rfl,Bh hk];refine cN (λI=>?_) (λI=>?_)
   .obtain⟨a1,na,Zf,ga,ha⟩:=hv _ F
    refine e9 hd rfl ga ?_;have hpl:=j.pl _ (ji F);simp at hpl;refine⟨(ω:1<=sizeLine),kG (getElem?_push ha) aI (by simp;omega) ?_⟩;have Zc:kvs.length=o.length:=by
     have:=cB List.length hk;simpa[aH] using this
    refine B3 (getElem?_push (getElem?_push hd)) rfl ω ?_;have V:=getElem?_push (T:=[C.lst ((c9 o st.2.1).map bE++[bE st])]) (getElem?_push (T:=[C.lst [bE st]]) U);have hd2:=getElem?_push (T:=[C.lst ((c9 o st.2.1).map bE++[bE st])]) (getElem?_push (T:=[C.lst [bE st]]) hd);have s:=gy (i:=A.length+1) (c:=C.dct (cP kvs (Sum.inr st.2.2) (D.ref (S++[C.lst [bE st]]).length))) ω V;refine⟨gf s,ou s (by simp[aH];omega) ?_⟩;have Zj:A1.length<=q2:=l2;have nq:A.length+2≠q2:=ω
    have Ti:A.length+1≠q2:=ω
    have J:cM o st=o++[(st.2.2,c9 o st.2.1++[st])]:=by unfold cM;rw[ay I]
    have ek:aH (cM o st)=aH o++[st.2.2]:=by rw[J];simp[aH]
    refine hN _ _ ⟨l++[st],b,_,rfl,by simpa using g,rfl,?_,?_,?_,?_⟩
    .rw[f]
     refine⟨_,gy ω (uK hd2),?_,?_,λm hm=>?_⟩
     .rw[ek,di]
      exact uK s
     .rw[ek]
      exact RJ hk I
     .rw[ek] at hm
      have la:(S++[C.lst [bE st]]).length=S.length+1:=θ
      have Sg:=dB U;rcases cu.mp hm with hm|hm
      .obtain⟨a,W,Y,Qa,G⟩:=hv m hm
       have hne:¬(Sum.inr st.2.2:Key)=Sum.inr m:=λz=>I (by rw[Sum.inr.inj z];exact hm);refine⟨a,W,Y,by rw[wk,ay hne];exact Qa,?_⟩;rw[J,Hs hm];have hd':A.length+1≠a:=λz=>by rw[<-z,hd] at G;cases G
       exact gy (Ne.symm W) (gy hd' (getElem?_push (getElem?_push G)))
      .have hm:m=st.2.2:=by simpa using hm
       subst hm;refine⟨(S++[C.lst [bE st]]).length,ω,ω,by rw[wk,aC rfl],?_⟩;rw[J,R_ I,di];exact gy ω (gy ω aI)
    .rw[f]
     exact j.add F VP
    .exact gy nq (gy Ti (getElem?_push (getElem?_push O)))
    .exact((((g3.trans Gr.push).trans Gr.push).set ω).set ω)
   .have J:cM o st=o:=by unfold cM;rw[aC I]
    refine hN _ _ ⟨l++[st],b,_,rfl,by simpa using g,rfl,?_,?_,O,g3⟩
    .rw[f,J];exact t
    .rw[f,J];exact j
  .rintro τ S ⟨l,b,x,e,g,rfl,t,j,O,g3⟩
   cases b with
   |cons _ _=>cases e
   |nil=>
   have g:l=eL Ts p.1:=by simpa using g
   subst g;refine⟨_,x,by rfl,?_,t,j,?_,g3⟩
   .obtain⟨X,e⟩:=wc (eL Ts p.1) Q
    rw[e,dZ];omega
   .rw[<-hb,(ω:14 - i=(14 - (i+1))+1),sR L]
 .rw[N] at c
  have c:Q.length<=i:=ω
  rw[Mu c] at hb;rw[<-hb] at q;refine q A1 _ Z ⟨ω,M,hd0,hk0,λm hm=>?_⟩;obtain⟨a,_,z,x,y⟩:=hv0 m hm;exact⟨a,z,x,y⟩
def DT:Ct:=λds A R _=>∃l r' a b r rs,ds=[enc (.cz l r' a b),.ref r]/\A[r]?=some (.dct (fN rs))/\1<=l/\l<=9/\1<=r'/\r'<=9/\Bk rs a/\Bk rs b/\a.deep<=6/\b.deep<=6/\∀A',Gr A A'->R (.tup [.int (l*ld (val rs) a),.int (r'*ld (val rs) b)]) A'
def D3(d:Nat):Ct:=λds A R _=>∃m w r rs,ds=[enc m,.str w,.ref r]/\A[r]?=some (.dct (fN rs))/\Wf m/\Bk rs m/\m.deep<d/\d<=6/\w.length+d<=100/\∀A' q,Gr A A'->A'[q]?=some (.lst ((fW (val rs) m w).map iG))->A.length<=q->R (.ref q) A'
def D5:Ct:=λds A R _=>∃m rs,ds=[enc m,iQ rs]/\Wf m/\Bk rs m/\m.deep<=5/\∀A' q,Gr A A'->A'[q]?=some (.lst ((fW (val rs) m "").map iG))->A.length<=q->R (.ref q) A'
def zM:Ct:=λds A R _=>∃m rs,ds=[enc m,iQ rs]/\Wf m/\Bk rs m/\m.deep<=5/\∀A',Gr A A'->R (.bl (decide (fW (val rs) m ""=[]))) A'
theorem FT{A:Ar}{p:Nat}{xs:Bi}{R:DK}(h:A[p]?=some (.lst xs))(c:fP xs=true)(hl:canLayAll0 (bG xs)=true)(k:R (.bl (decide (xs=[]))) (A++[.lst []])):fD false (.ref p) (.ref A.length) (A++[.lst []]) R:=by
 unfold fD;have b:cH (A++[.lst []]) (.ref p)=.list (bG xs):=by unfold cH;simp only[getElem?_push h]
 have a:cH (A++[.lst []]) (.ref A.length)=.list []:=by unfold cH;simp only[aI];rfl
 refine⟨?_,?_,?_,?_,?_,?_⟩
 .unfold iH;simp only[getElem?_push h];exact c
 .unfold iH;simp only[aI];rfl
 .rw[b];simpa[canLay0] using hl
 .rw[a];simp[canLay0,canLayAll0]
 .rw[a];simp[PyData.depth,depthAll];omega
 .rw[b,a]
  have e:PyData.eqv (.list (bG xs)) (.list [])=decide (xs=[]):=by cases xs<;>simp[bG,PyData.eqv,eqvAll]
  rw[ay δ,e];exact k
def Wy(w:Str):Prop:=∀c∈w.cps.toList,c=108\/c=114
theorem EK(x y:Str):(x++y).cps.toList=x.cps.toList++y.cps.toList:=Array.toList_append
theorem Wy.nil:Wy "":=λc h=>by
 have e:("":Str).cps.toList=[]:=η
 rw[e] at h;cases h
theorem M5:("l":Str).cps.toList=[108]:=η
theorem M6:("r":Str).cps.toList=[114]:=η
theorem Wy.l{w:Str}(h:Wy w):Wy (w++"l"):=λc hc=>by
 rw[EK,M5] at hc;rcases cu.mp hc with h'|h'
 .exact h c h'
 .exact .inl (bS.mp h')
theorem Wy.r{w:Str}(h:Wy w):Wy (w++"r"):=λc hc=>by
 rw[EK,M6] at hc;rcases cu.mp hc with h'|h'
 .exact h c h'
 .exact .inr (bS.mp h')
theorem Wy.ok{w:Str}(h:Wy w):canLay0 (.str w)=true:=by
 have e:w.cps.all (λc=>decide (c<0x110000))=true:=by
  rw[<-Array.all_toList,gp];intro c hc;have:=h c hc;exact dc ω
 simpa[canLay0,strOk] using e
theorem R3:canLay0 (.str "left")=true:=η
theorem VG:canLay0 (.str κD)=true:=η
theorem CC(f:Str->Int):∀(m:M) (w:Str),Wy w->∀p∈fW f m w,Wy p.1/\(p.2="left"\/p.2=κD)
 |.wt _,_,_,p,h=>by cases h
 |.cz l r a b,w,c,p,h=>by
  have h:p∈hr2 w (l*ld f a) (r*ld f b)++fW f a (w++"l")++fW f b (w++"r"):=h;rcases cu.mp h with h|h
  .rcases cu.mp h with h|h
   .unfold hr2 at h
    split at h
    .rw[bS.mp h];exact⟨c,.inl rfl⟩
    .split at h
     .rw[bS.mp h];exact⟨c,.inr rfl⟩
     .cases h
   .exact CC f a _ c.l p h
  .exact CC f b _ c.r p h
theorem Iu:∀ps:List (Str×Str),fP (ps.map iG)=true
 |[]=>rfl
 |p::r=>by simp[fP,iG,gO,Iu r]
theorem Hf:∀ps:List (Str×Str),(∀p∈ps,canLay0 (.str p.1)=true/\canLay0 (.str p.2)=true)->canLayAll0 (bG (ps.map iG))=true
 |[],_=>by simp[bG,canLayAll0]
 |p::r,h=>by
  have h1:=h p (bA ..);have h2:=Hf r λq a=>h q (bz _ a);simp only[cJ,bG,iG,toQ,canLayAll0,canLay0] at h1 h2 ⊢;simp[h1.1,h1.2,h2]
theorem R0{f:Str->Int}{m:M}:canLayAll0 (bG ((fW f m "").map iG))=true:=Hf _ λp a=>by
 obtain⟨h1,h2⟩:=CC f m "" .nil p a;refine⟨h1.ok,?_⟩;rcases h2 with e|e<;>rw[e]
 .exact R3
 .exact VG
theorem Py(T:TopD K mg "pulls" J2 xT)(c:av P w K mg base 10 "load_below" xQ (au mg 2 (DL 6))):av P w K mg base 11 "pulls" xT (au mg 2 DT):=by
 refine bW T WK λe o f d nd=>⟨_,(aD (aP (cE (aa (dQ (dX d (vr 0) aj) (dL c e f (aa (dX d (vr 0) aj) (aa (vr 1) af)))) (aa (dQ (dX d (vr 0) aj) (dL c e f (aa (dX d (vr 0) aj) (aa (vr 1) af)))) af))))),λds A R h hl=>?_⟩;obtain⟨l,r',a,b,r,rs,rfl,g,h1,h2,p,s,i,j,m,db,q⟩:=h;refine⟨rfl,a,r,rs,rfl,g,i.ok,m,i.nm,λt k=>⟨.inl ⟨ω,ω⟩,?_⟩⟩;refine⟨rfl,b,r,rs,rfl,k.get g,j.ok,db,j.nm,λu n=>⟨.inl ⟨ω,ω⟩,?_⟩⟩;exact⟨(δ:2<=sizeLine),q _ (k.trans n)⟩
theorem PU(T:TopD K mg "tips_below" Ke x_)(i:av P w K mg base 11 "pulls" xT (au mg 2 DT)):∀d,av P w K mg base (d+11) "tips_below" x_ (au mg 3 (D3 d)):=by
 intro d;induction d with
 |zero=>
  refine nc T λds A R RE h=>?_;obtain⟨m,w,r,rs,_,_,_,_,h,_⟩:=h;omega
 |succ d e=>
  refine jf T Kr rfl δ λN RE f V B outer s H E u hR G ds A R h hl=>?_;have j:=u.units;have nd:=Kr.nd;refine⟨_,(aE (bY (j8 j (dX j (vr 0) aj) bR) (aD (aP (dI af))) b_)
  (aE (dS 3 nd (dL i u G (aa (vr 0) (aa (vr 2) af))))
  (aE (dS 4 nd (dI af))
  (aE (bY (Cw (dX j (vr 3) aj) (dX j (vr 3) aj)) (aD (fm (gJ gQ pU p7 nv oG (vr 4) (aa (cE (aa (vr 1) (aa bR af))) af)))) b_)
  (aE (bY (rD (dX j (vr 3) aj) (dX j (vr 3) aj)) (aD (fm (gJ gQ pU p7 nv oG (vr 4) (aa (cE (aa (vr 1) (aa bR af))) af)))) b_)
  (aD (aP (dP (dP (vr 4) (dL e u G (aa (dX j (vr 0) aj) (aa (dP (vr 1) bR) (aa (vr 2) af))))) (dL e u G (aa (dX j (vr 0) aj) (aa (dP (vr 1) bR) (aa (vr 2) af)))))))))))),?_⟩
  obtain⟨m,w,r,rs,rfl,O,I,v,hd,h6,J,q⟩:=h;have hs:(1000:Nat)<=sizeLine:=δ
  cases m with
  |wt n=>exact⟨cA _,q _ _ Gr.push aI (aJ _)⟩
  |cz l r' a b=>
   have W:max a.deep b.deep+1<d+1:=hd;have L:=I.arms;obtain⟨X,Y,Z,r4,_,_⟩:=L;have ll:("l":Str).length=1:=η
   have lr:("r":Str).length=1:=η
   have al:∀x y:Str,(x++y).length=x.length+y.length:=λx y=>u6;refine⟨rfl,l,r',a,b,r,rs,rfl,O,X,Y,Z,r4,v.left,v.right,ω,ω,λg Q=>?_⟩;refine⟨cA _,?_⟩;have n0:=GK w (l*ld (val rs) a) (r'*ld (val rs) b);have n1:=yy (val rs) a (w++"l");have n2:=yy (val rs) b (w++"r");have p1:2 ^ a.deep<=2 ^ 6:=fK δ ω;have p2:2 ^ b.deep<=2 ^ 6:=fK δ ω;by_cases k:r'*ld (val rs) b<l*ld (val rs) a;case' pos=>
    have o:hr2 w (l*ld (val rs) a) (r'*ld (val rs) b)=[(w,("left":Str))]:=by unfold hr2;rw[aC k]
    refine cD (λ_=>?_) (λc=>absurd k c);refine⟨gf aI,(δ:2<=sizeLine),ou aI δ ?_⟩;have h2:=get_set (ys:=[]++[D.tup [.str w,.str "left"]]) (aI (A:=g) (c:=C.lst []));have z:Gr g ((g++[C.lst []]).set g.length (.lst ([]++[D.tup [.str w,.str "left"]]))):=Gr.set Gr.push (aJ _);refine cD (λc=>absurd k ω) (λ_=>?_);generalize (g++[C.lst []]).set g.length (.lst ([]++[D.tup [.str w,.str "left"]]))=p at*
    have h2:p[g.length]?=some (.lst ((hr2 w (l*ld (val rs) a) (r'*ld (val rs) b)).map iG)):=by rw[h2,o];rfl
   case' neg=>
    refine cD (λc=>absurd c k) (λ_=>?_);by_cases F:l*ld (val rs) a<r'*ld (val rs) b;case' pos=>
     have o:hr2 w (l*ld (val rs) a) (r'*ld (val rs) b)=[(w,(κD:Str))]:=by unfold hr2;rw[ay k,aC F]
     refine cD (λ_=>?_) (λc=>absurd F c);refine⟨gf aI,(δ:2<=sizeLine),ou aI δ ?_⟩;have h2:=get_set (ys:=[]++[D.tup [.str w,.str κD]]) (aI (A:=g) (c:=C.lst []));have z:Gr g ((g++[C.lst []]).set g.length (.lst ([]++[D.tup [.str w,.str κD]]))):=Gr.set Gr.push (aJ _);generalize (g++[C.lst []]).set g.length (.lst ([]++[D.tup [.str w,.str κD]]))=p at*
     have h2:p[g.length]?=some (.lst ((hr2 w (l*ld (val rs) a) (r'*ld (val rs) b)).map iG)):=by rw[h2,o];rfl
    case' neg=>
     have o:hr2 w (l*ld (val rs) a) (r'*ld (val rs) b)=[]:=by unfold hr2;rw[ay k,ay F]
     refine cD (λc=>absurd c F) (λ_=>?_);have h2:=aI (A:=g) (c:=C.lst []);have z:Gr g (g++[C.lst []]):=Gr.push;generalize g++[C.lst []]=p at*
     have h2:p[g.length]?=some (.lst ((hr2 w (l*ld (val rs) a) (r'*ld (val rs) b)).map iG)):=by rw[h2,o];rfl
   all_goals
    have t:=(Q.trans z).get O;refine⟨ω,rfl,a,_,r,rs,rfl,t,I.left,v.left,ω,ω,by rw[al];omega,λA3 q3 M h3 _=>?_⟩;refine kG (M.get h2) h3 (by simp;omega) ?_;refine⟨ω,rfl,b,_,r,rs,rfl,getElem?_push (M.get t),I.right,v.right,ω,ω,by rw[al];omega,λA4 q4 S h4 _=>?_⟩;refine kG (S.get aI) h4 (by simp;omega) ?_;have U:Gr A A4:=(((Q.trans z).trans M).trans Gr.push).trans S;refine q _ _ (U.trans Gr.push) ?_ U.len;rw[aI];simp[fW]
theorem PV(T:TopD K mg "tips" Kd xZ)(d:mg "dict"=none)(b:av P w K mg base 9 "check_mobile" ug (au mg 1 zB))(a:av P w K mg base 10 "check_weights" xE (au mg 2 DC))(c:av P w K mg base 17 "tips_below" x_ (au mg 3 (D3 6))):av P w K mg base 18 "tips" xZ (au mg 2 D5):=by
 refine bW T WS λf r i s nd=>⟨_,(aE (fm (dL b f i (aa (vr 0) af)))
  (aE (fm (dL a f i (aa (vr 0) (aa (vr 1) af))))
  (aD (aP (dL c f i (aa (vr 0) (aa bR (aa (ie (qv rfl) qz d r9 (aa (vr 1) af)) af)))))))),λds A R h hl=>?_⟩
 obtain⟨m,rs,rfl,j,e,hd,q⟩:=h;refine⟨rfl,_,⟨m,rfl,j,hd,rfl⟩,λt k=>?_⟩;refine⟨rfl,_,⟨m,rs,rfl,e.ok,hd,e.nm,rfl⟩,λu l=>?_⟩;refine Fq e.ok ?_;have g:=(k.trans l).trans (Gr.push (T:=[C.dct (fN rs)]));exact⟨rfl,m,_,_,rs,rfl,aI,j,e,ω,ω,η,λv x n o p=>q _ _ (g.trans n) o (dF g.len p)⟩
theorem PN(T:TopD K mg "is_still" JS xM)(a:av P w K mg base 18 "tips" xZ (au mg 2 D5)):av P w K mg base 19 "is_still" xM (au mg 2 zM):=by
 refine bW T Wz λb j c d nd=>⟨_,(aD (aP (lX d (dL a b c (aa (vr 0) (aa (vr 1) af))) (dI af)))),λds A R h hl=>?_⟩;obtain⟨m,rs,rfl,f,g,hd,q⟩:=h;refine⟨rfl,m,rs,rfl,f,g,hd,λk l i h1 _=>?_⟩;refine⟨cA _,FT h1 (Iu _) R0 ?_⟩;have e:decide ((fW (val rs) m "").map iG=[])=decide (fW (val rs) m ""=[]):=θ
 rw[e];exact q _ (i.trans Gr.push)
theorem Qj{A a:Ar}{r:Nat}{o:Obj}{kvs:List (Key×D)}(h:A[r]?=some (.dct kvs))(g:Gr (A.set r (.bV o kvs)) a):a[r]?=some (.bV o kvs)/\Gr A (a.set r (.dct kvs)):=by
 obtain⟨T,rfl⟩:=g;have hl:=(bP.mp h).1;refine⟨by rw[gW (by simpa using hl),fy hl],T,?_⟩;rw[yQ _ _ (by simpa using hl),set_set];congr 1;apply sf;intro i;by_cases e:i=r
 .subst e;rw[fy hl,h]
 .rw[fH (Ne.symm e)]
theorem Iw:∀(ps acc:List (Key×D)),((acc++ps).map (·.1)).Nodup->ps.foldl (λacc p=>cP acc p.1 p.2) acc=acc++ps
 |[],acc,_=>by simp
 |p::ps,acc,h=>by
  rw[gF];have c:(acc.any λa=>decide (a.1=p.1))=false:=by
   rw[List.any_eq_false];intro a b z;rw[di] at h;exact(nK.mp h).2.2 a.1 (dN b) p.1 θ (fY z)
  have e:cP acc p.1 p.2=acc++[p]:=by
   unfold cP;rw[c];rfl
  rw[e,Iw ps (acc++[p]) (by simpa using h)];simp
theorem Gv(g:Str->D):∀(ns:Ap) (n:Str),n∈ns->bF (ns.map λn=>((Sum.inr n:Key),g n)) (Sum.inr n)=some (g n)
 |[],n,h=>by cases h
 |x::ns,n,h=>by
  show(if (Sum.inr x:Key)=Sum.inr n then some (g x) else bF _ _)=_;by_cases e:x=n
  .rw[aC (by rw[e]),e]
  .rw[ay (λz=>e (Sum.inr.inj z))]
   rcases bx.mp h with z|z
   .exact absurd z.symm e
   .exact Gv g ns n z
def kT(g:Str->Rat)(n:Str):D:=.tup [.str n,fq (g n)]
theorem H_(g:Str->Rat):∀ns:Ap,fO (ns.map (kT g))=some (ns.map λn=>((Sum.inr n:Key),fq (g n)))
 |[]=>rfl
 |n::ns=>by
  have:=H_ g ns;simp[kT,fO,this,gw]
def fu(Gs:List bf):Ap:=Gs.flatMap aH
def dj(Ts:Bz)(Gs:List bf)(n:Str):List bf:=if n∈fu Gs then Gs else Gs++[aY Ts n]
def bO(Ts:Bz):List bf:=(Ts.flatMap ai).foldl (dj Ts) []
noncomputable def fS(lo:Nat)(A:Ar):B2->List bf->Prop
 |[],[]=>True
 |q::qs,P::Ps=>g_ lo A q P/\fS lo A qs Ps
 |_,_=>False
theorem fS.kO{lo a:Nat}{A B:Ar}(f:∀q P,g_ lo A q P->g_ a B q P):∀{qs:B2} {Ps:List bf},fS lo A qs Ps->fS a B qs Ps
 |[],[],_=>trivial
 |q::qs,P::Ps,h=>⟨f q P h.1,fS.kO f h.2⟩
 |[],_::_,h=>h.elim
 |_::_,[],h=>h.elim
theorem fS.snoc{lo:Nat}{A:Ar}{q:Nat}{P:bf}(a:g_ lo A q P):∀{qs:B2} {Ps:List bf},fS lo A qs Ps->fS lo A (qs++[q]) (Ps++[P])
 |[],[],_=>⟨a,trivial⟩
 |_::qs,_::Ps,h=>⟨h.1,fS.snoc a h.2⟩
 |[],_::_,h=>h.elim
 |_::_,[],h=>h.elim
theorem fS.len{lo:Nat}{A:Ar}:∀{qs:B2} {Ps:List bf},fS lo A qs Ps->qs.length=Ps.length
 |[],[],_=>rfl
 |q::qs,P::Ps,h=>by simp[fS.len h.2]
 |[],_::_,h=>h.elim
 |_::_,[],h=>h.elim
def L4(lo:Nat)(A:Ar)(q:Nat)(Gs:List bf):Prop:=lo<=q/\∃gs,A[q]?=some (.lst (gs.map D.ref))/\fS lo A gs Gs
def mT(b:Nat)(NN:Ap)(A:Ar)(Gs:List bf):Prop:=∃(gs:B2) (kvs:List (Key×D)) (ns:Ap),A[b]?=some (.lst (gs.map D.ref))/\fS (b+2) A gs Gs/\A[b+1]?=some (.dct kvs)/\kvs.map (·.1)=ns.map Sum.inr/\ns.Nodup/\(∀n,n∈ns↔n∈fu Gs)/\∀n∈ns,n∈NN
theorem mT.set{b t:Nat}{NN:Ap}{A:Ar}{Gs:List bf}{c:C}(h:mT b NN A Gs)(e:t<b):mT b NN (A.set t c) Gs:=by
 obtain⟨gs,kvs,ns,h1,h2,a,d⟩:=h;exact⟨gs,kvs,ns,gy ω h1,h2.kO λq P z=>z.set ω,gy ω a,d⟩
theorem RT{kvs:List (Key×D)}{ns:Ap}(h:kvs.map (·.1)=ns.map Sum.inr):∃ps:List (Str×D),kvs=ps.map (λp=>((Sum.inr p.1:Key),p.2))/\ps.map (·.1)=ns:=by
 induction kvs generalizing ns with
 |nil=>
  cases ns with
  |nil=>exact⟨[],rfl,rfl⟩
  |cons _ _=>cases h
 |cons p kvs a=>
  cases ns with
  |nil=>cases h
  |cons m ns=>
   rw[cJ,cJ,List.cons.injEq] at h;obtain⟨ps,b,c⟩:=a h.2;exact⟨(m,p.2)::ps,by rw[cJ,<-b,<-h.1],by rw[cJ,c]⟩
theorem HA{kvs b:List (Key×D)}{ns ms:Ap}(h1:kvs.map (·.1)=ns.map Sum.inr)(h2:b.map (·.1)=ms.map Sum.inr)(c:ns.Nodup):∃a:Ap,(kQ kvs b).map (·.1)=a.map Sum.inr/\a.Nodup/\∀n,n∈a↔n∈ns\/n∈ms:=by
 obtain⟨ps,d,e⟩:=RT h2;obtain⟨a,k1,k2,k3⟩:=Ge ps kvs ns h1 c;refine⟨a,?_,k2,λn=>by rw[k3,e]⟩;unfold kQ;rw[d];exact k1
theorem Ed{Ts:Bz}{NN:Ap}(ar:d7 Ts NN):∀(f i:Nat) (P:bf),gu P NN->gu (eE Ts f i P) NN/\∃X,eE Ts f i P=P++X
 |0,i,P,h=>⟨h,[],by simp[eE]⟩
 |f+1,i,P,h=>by
  cases e:P[i]? with
  |none=>
   have:eE Ts (f+1) i P=P:=by
    show(match P[i]? with|some p=>eE Ts f (i+1) ((eL Ts p.1).foldl cM P)|none=>P)=_;rw[e]
   rw[this];exact⟨h,[],θ⟩
  |some p=>
   rw[sR e];have key:∀(ss:List bg) (Q:bf),(∀s∈ss,s∈eL Ts p.1)->gu Q NN->p.1∈aH Q->gu (ss.foldl cM Q) NN:=by
    intro ss;induction ss with
    |nil=>intro Q _ h _;exact h
    |cons s ss c=>
     intro Q b d a;obtain⟨T,g,_,j,k⟩:=o9.mp (b s (bA ..));refine c _ (λx l=>b x (bz _ l)) (d.add (by rw[j];exact a) (ar.sub T (cS g) _ k)) ?_;exact(sN Q s p.1).mpr (.inl a)
   have a:p.1∈aH P:=dN (cS e);obtain⟨h1,X,h2⟩:=Ed ar f (i+1) _ (key (eL Ts p.1) P (λs h=>h) h a);obtain⟨Y,m⟩:=wc (eL Ts p.1) P;exact⟨h1,Y++X,by rw[h2,m,nR]⟩
theorem j6{Ts:Bz}{NN:Ap}(ar:d7 Ts NN){n:Str}(a:n∈NN):gu (aY Ts n) NN/\n∈aH (aY Ts n)/\c9 (aY Ts n) n=[]:=by
 have h0:gu [(n,[])] NN:=⟨by simp[aH],λm b=>by
  have:m=n:=by simpa[aH] using b
  rw[this];exact a,λp c=>by
  have:p=(n,[]):=by simpa using c
  rw[this];simp⟩
 obtain⟨h1,X,h2⟩:=Ed ar 14 0 _ h0;have d:n∈aH [(n,([]:List bg))]:=by simp[aH]
 refine⟨h1,?_,?_⟩
 .show n∈aH (eE Ts 14 0 [(n,[])])
  rw[h2];simp[aH]
 .show c9 (eE Ts 14 0 [(n,[])]) n=[]
  rw[h2,Hs d];simp[c9]
theorem Qk{Ts:Bz}{NN:Ap}(ar:d7 Ts NN){Gs:List bf}{n:Str}(a:n∈NN):n∈fu (dj Ts Gs n)/\∀m∈fu Gs,m∈fu (dj Ts Gs n):=by
 unfold dj;split
 .rename_i h
  exact⟨h,λ_ h=>h⟩
 .unfold fu
  rw[sj];refine⟨iy _ ?_,λm b=>mK _ b⟩;simp;exact(j6 ar a).2.1
theorem Gy{Ts:Bz}{NN:Ap}(ar:d7 Ts NN):∀(ns:Ap) (Gs:List bf),(∀n∈ns,n∈NN)->(∀n∈ns,n∈fu (ns.foldl (dj Ts) Gs))/\∀m∈fu Gs,m∈fu (ns.foldl (dj Ts) Gs)
 |[],Gs,_=>⟨(λ_ h=>by cases h),λ_ h=>h⟩
 |n::ns,Gs,h=>by
  obtain⟨k1,k2⟩:=Qk ar (Gs:=Gs) (h n (bA ..));obtain⟨b,a⟩:=Gy ar ns (dj Ts Gs n) λm hm=>h m (bz _ hm);refine⟨λm hm=>?_,λm hm=>a m (k2 m hm)⟩;rcases bx.mp hm with rfl|hm
  .exact a _ k1
  .exact b m hm
theorem oV{Ts:Bz}{NN:Ap}(ar:d7 Ts NN){T:Tb}(a:T∈Ts){n:Str}(b:n∈ai T):n∈fu (bO Ts):=by
 refine(Gy ar (Ts.flatMap ai) [] λm c=>?_).1 n (fX.mpr ⟨T,a,b⟩);obtain⟨d,h1,h2⟩:=fX.mp c;exact ar.sub d h1 m h2
theorem AL(Ts:Bz):∀(ns:Ap) (Gs:List bf),(ns.foldl (dj Ts) Gs).length<=Gs.length+ns.length
 |[],Gs=>aJ _
 |n::ns,Gs=>by
  have h:=AL Ts ns (dj Ts Gs n);have h2:(dj Ts Gs n).length<=Gs.length+1:=by
   unfold dj;split
   .omega
   .simp
  rw[gF,iw];omega
theorem HC:∀(Ts:Bz),(∀T∈Ts,T.length<=32)->(Ts.flatMap ai).length<=32*Ts.length
 |[],_=>by simp
 |T::Ts,h=>by
  have h1:=HC Ts λq a=>h q (bz _ a);have h2:=h T (bA ..);have e:(ai T).length=T.length:=by simp[ai]
  rw[sq,dZ,iw];omega
def vB:Ct:=λds A R _=>∃r Ts NN,ds=[.ref r]/\iM A r Ts/\d7 Ts NN/\∀A' q,Gr A A'->L4 A.length A' q (bO Ts)->R (.ref q) A'
theorem TabsAt.fz{A:Ar}{t:Nat}{o:Obj}{T0:Tb}(h0:A[t]?=some (.dct (bB T0))):∀{a:B2} {Ts:Bz},TabsAt A a Ts->TabsAt (A.set t (.bV o (bB T0))) a Ts
 |[],[],_=>trivial
 |q::qs,T::Ts,h=>by
  refine⟨?_,TabsAt.fz h0 h.2⟩;by_cases e:t=q
  .subst e
   rcases h.1 with h'|⟨o',h'⟩
   .rw[h0] at h'
    have b:bB T0=bB T:=by
     have h':=Option.some.inj h';injection h'
    exact .inr ⟨o,by rw[fy (dB h0),b]⟩
   .rw[h0] at h'
    cases h'
  .rcases h.1 with h'|⟨o',h'⟩
   .exact .inl (gy e h')
   .exact .inr ⟨o',gy e h'⟩
 |[],_::_,h=>h.elim
 |_::_,[],h=>h.elim
theorem OZ(T:TopD K mg "groups" JI q7)(b:av P w K mg base 2 "paths_from" xS (au mg 2 zJ)):av P w K mg base 3 "groups" q7 (au mg 1 vB):=by
 refine jf T Ko rfl δ λN RE f cdv B outer s H E hr hR hx ds A R h hl=>?_;have hu:=hr.units;have nd:=Ko.nd;refine⟨_,(aE (dS 1 nd (dI af))
  (aE (dS 2 nd Ak)
  (aE (d8 dM rfl (cj (vr 0)) (dG 3 nd) (aD (Oi (d8 dM rfl (vU (vr 3)) (dG 4 nd) (aD (bY (uR hu (vr 4) (vr 2)) (aE (dS 5 nd (dL b hr hx (aa (vr 0) (aa (vr 4) af))))
  (aE (fm (E8 PySem.F.plainAttrs_dict slot_dict_update PySem.F.type_dict_update HB E5 (vr 2) (aa (vr 5) af)))
  (aD (fm (gJ gQ pU p7 nv oG (vr 1) (aa (vr 5) af)))))) b_))))))
  (aD (aP (vr 1)))))),?_⟩
 obtain⟨r,Ts,NN,rfl,hB,ar,q⟩:=h;obtain⟨J,h1,h2⟩:=id hB;have hz:(1000:Nat)<=sizeLine:=δ
 have e1:(A++[C.lst []]).length=A.length+1:=θ
 have g0:Gr A (A++[C.lst []]++[C.dct []]):=Gr.push.trans Gr.push;refine⟨cA _,dJ (g0.get h1) ?_⟩;rw[e1];have tM:mT A.length NN (A++[C.lst []]++[C.dct []]) []:=⟨[],[],[],getElem?_push aI,trivial,by rw[<-e1];exact aI,rfl,nodup_nil,λn=>by simp[fu],λn h=>by cases h⟩;refine eF (λrest τ A'=>∃(i:Nat) (x y z:Option D),i<=J.length/\rest=(J.map D.ref).drop i/\τ=[some (.ref r),some (.ref A.length),some (.ref (A.length+1)),x,y,z]/\mT A.length NN A' (((Ts.take i).flatMap ai).foldl (dj Ts) [])/\Gr A A') ?_ ?_ ?_ _ _ _ ⟨0,none,none,none,cA _,rfl,rfl,tM,g0⟩
 .rintro rest τ A' ⟨i,x,y,z,_,_,_,_,g⟩
  exact g.get h1
 .rintro v rest τ A1 ⟨i,x,y,z,hi,e,rfl,Y,g⟩ Nx hN
  by_cases hlt:i<J.length
  .obtain⟨t,ht⟩:∃t,J[i]?=some t:=⟨J[i],a_ hlt⟩
   obtain⟨T0,hT,hA⟩:=h2.get ht;have AN:=hA.gr g;have M:i<(J.map D.ref).length:=by rw[aQ];exact hlt
   have ev:(J.map D.ref)[i]?=some (.ref t):=by rw[bM,ht];rfl
   rw[nW M] at e;rw[a_ M] at ev;have ev:=Option.some.inj ev;rw[ev] at e;cases e;have GN:T0∈Ts:=cS hT;have tl:t<A.length:=by
    rcases hA with h'|⟨_,h'⟩
    .exact dB h'
    .exact dB h'
   have AA:(Ts.take (i+1)).flatMap ai=(Ts.take i).flatMap ai++ai T0:=by
    rw[take_succ,hT,sj];simp
   obtain⟨O,S⟩:∃G,G=((Ts.take i).flatMap ai).foldl (dj Ts) []:=⟨_,rfl⟩;have Q:((Ts.take (i+1)).flatMap ai).foldl (dj Ts) []=(ai T0).foldl (dj Ts) O:=by rw[AA,nX,S]
   rw[<-S] at Y;have em:((bB T0).map λp=>keyOf p.1)=(ai T0).map D.str:=G6 T0;have go:∀(o:Obj) (U B1:Ar) (Dn:mS),U.length=A.length->U[t]?=some (.bV o (bB T0))->iM U r Ts->Gr U B1->mT A.length NN B1 O->(∀(Z:Ar) (y z:Option D),mT A.length NN Z ((ai T0).foldl (dj Ts) O)->Gr U Z->Dn.nx [some (.ref r),some (.ref A.length),some (.ref (A.length+1)),some (.ref t),y,z] Z)->
     uJ (tO (aT 3)) (gN 4) (rq (fU (br (inD true) (aT 4) (aT 2))) (iY (iK 5 (iC 2 zJ RE (aV (aT 0) (aV (aT 4) cC)))) (iY (Cd (ET CJ (aT 2) (aV (aT 5) cC))) (Cd (ES zP (aT 1) (aV (aT 5) cC))))) rz) Dn [some (.ref r),some (.ref A.length),some (.ref (A.length+1)),some (.ref t),y,z] B1:=λo U B1 Dn YZ hf Qp g1 QC fin=>by
    refine Bg (g1.get hf) ?_;rw[em];refine eF (λrest τ B'=>∃(k a:Ap) (y z:Option D),rest=a.map D.str/\k++a=ai T0/\τ=[some (.ref r),some (.ref A.length),some (.ref (A.length+1)),some (.ref t),y,z]/\mT A.length NN B' (k.foldl (dj Ts) O)/\Gr U B') ?_ ?_ ?_ _ _ _ ⟨[],ai T0,y,z,rfl,rfl,rfl,QC,g1⟩
    .rintro rest τ B' ⟨_,_,_,_,_,_,_,_,g'⟩
     exact g'.get hf
    .rintro v rest τ B' ⟨k,a,y,z,e,d,rfl,L,g'⟩ YQ GC
     cases a with
     |nil=>cases e
     |cons n a=>
     cases e;have QM:n∈ai T0:=by rw[<-d];simp
     have GJ:n∈NN:=ar.sub T0 GN n QM;have l:(k++[n]).foldl (dj Ts) O=dj Ts (k.foldl (dj Ts) O) n:=by rw[nX];rfl
     generalize Qt:k.foldl (dj Ts) O=G3 at*
     obtain⟨gs,kvs,ns,k1,k2,k3,k4,k5,k6,k7⟩:=id L;refine oY k3 rfl ?_;rw[aC rfl,Bh k4];refine cN (λc=>?_) (λc=>?_)
     .have V:n∉fu G3:=λz=>c ((k6 n).mpr z)
      obtain⟨ye,_,_⟩:=j6 ar GJ;refine⟨rfl,r,n,Ts,NN,rfl,Qp.gr g',ar,GJ,λZ q2 I h2=>?_⟩;obtain⟨lq,u,m1,m2,m3⟩:=id h2;have lB:=dB k3;have ln:ns.length<=12:=dF (j5 ns NN k5 k7) ar.nn;have R7:kvs.length=ns.length:=by
       have:=cB List.length k4;simpa using this
      have R8:u.length=(aY Ts n).length:=by
       have:=cB List.length m2;simpa[aH] using this
      have lP:=ye.len;have Tc:=ar.nn;refine⟨GW (I.get k3),Lh (I.get k3) m1 ω ω ?_⟩;have hb:=gy (i:=A.length+1) (j:=A.length) (c:=C.dct (kQ kvs u)) ω (I.get k1);have tX:=k2.len;refine⟨gf hb,ou hb ?_ ?_⟩
      .rw[aQ,tX]
       have l1:=AL Ts k O;have l2:=AL Ts ((Ts.take i).flatMap ai) [];have l3:=HC (Ts.take i) λT' oX=>(ar.tok T' (rO oX)).len;have l4:k.length<=32:=by
        have h1:=cB List.length d;have h2:=(ar.tok T0 GN).len;have e:(ai T0).length=T0.length:=by simp[ai]
        rw[dZ] at h1;omega
       rw[nJ] at l3;have h7:=ar.len;rw[Qt] at l1;rw[<-S] at l2;rw[length_nil,zero_add] at l2;omega
      obtain⟨ns',j1,j2,j3⟩:=HA k4 m2 k5;have eg:dj Ts G3 n=G3++[aY Ts n]:=by unfold dj;rw[ay V]
      refine GC _ _ ⟨k++[n],a,_,_,rfl,by simpa using d,rfl,?_,?_⟩
      .rw[l,eg]
       refine⟨gs++[q2],_,ns',?_,?_,gy ω (uK (I.get k3)),j1,j2,λm=>?_,λm hm=>?_⟩
       .rw[di]
        exact uK hb
       .refine fS.snoc ?_ (k2.kO λq P z=>((z.gr I).set ω).set ω)
        exact((h2.lo ω).set ω).set ω
       .rw[j3,k6]
        simp[fu]
       .rcases (j3 m).mp hm with h'|h'
        .exact k7 m h'
        .exact ye.sub m h'
      .exact(((g'.trans I).set ω).set ω)
     .have V:n∈fu G3:=(k6 n).mp c
      have eg:dj Ts G3 n=G3:=by unfold dj;rw[aC V]
      refine GC _ _ ⟨k++[n],a,_,_,rfl,by simpa using d,rfl,?_,g'⟩;rw[l,eg];exact L
    .rintro τ B' ⟨k,a,y,z,e,d,rfl,L,g'⟩
     cases a with
     |cons _ _=>cases e
     |nil=>
     have d:k=ai T0:=by simpa using d
     subst d;exact fin B' y z L g'
   rcases hA with hd|⟨o,hd⟩
   .refine .inl ⟨t,bB T0,g.get hd,λo=>?_⟩
    have YT:A1.set t (.bV o (bB T0))=A1.set t (.bV o (bB T0)):=rfl;have Qm:Gr (A.set t (.bV o (bB T0))) (A1.set t (.bV o (bB T0))):=by
     obtain⟨X,rfl⟩:=g;exact⟨X,by rw[yQ _ _ tl]⟩
    refine go o (A.set t (.bV o (bB T0))) _ _ θ (fy tl) ⟨J,?_,h2.fz hd⟩ Qm (Y.set tl) λZ y z W I=>?_
    .have:t≠r:=λz=>by rw[z,h1] at hd;cases hd
     exact gy this h1
    .obtain⟨u1,u2⟩:=Qj hd I
     refine⟨bB T0,u1,hN _ _ ⟨i+1,_,_,_,ω,rfl,rfl,?_,u2⟩⟩;rw[Q];exact W.set tl
   .refine .inr (go o A _ _ rfl hd hB g Y λZ y z W I=>hN _ _ ⟨i+1,_,_,_,ω,rfl,rfl,?_,I⟩)
    rw[Q];exact W
  .rw[ve (by rw[aQ];omega)] at e
   cases e
 .rintro τ A1 ⟨i,x,y,z,hi,e,rfl,Y,g⟩
  have hi:i=J.length:=by
   have:=cB List.length e;simp at this;omega
  have By:=h2.len;rw[hi,By,take_length] at Y;obtain⟨gs,kvs,ns,k1,k2,_⟩:=Y;exact q _ _ g ⟨aJ _,gs,k1,k2.kO λq P z=>z.lo ω⟩
def bwd(ss:List bg):List bg:=ss.reverse.map λs=>(s.1,s.2.2,s.2.1)
noncomputable def yp(Ts:Bz)(i:Nat)(n:Str):Rat:=match Ts[i]? with
 |some T=>aB T n
 |none=>0
noncomputable def b8(Ts:Bz)(s:bg):Rat:=yp Ts s.1 s.2.2/yp Ts s.1 s.2.1
noncomputable def cO(Ts:Bz)(ss:List bg):Rat:=ss.foldl (λx s=>x*b8 Ts s) 1
def cU(Ts:Bz)(s:bg):Prop:=∃T,Ts[s.1]?=some T/\s.2.1∈ai T/\s.2.2∈ai T
theorem iZ{Ts:Bz}{i:Nat}{T:Tb}(h:Ts[i]?=some T)(n:Str):yp Ts i n=aB T n:=by
 unfold yp;rw[h]
theorem uG{a b:Int}(d:0<a)(c:0<b):(rf ((a:Rat)/(b:Rat))).1<=a/\(rf ((a:Rat)/(b:Rat))).2<=b:=by
 rw[<-yk c];exact⟨r_ _ (dO d),r_ _ (dO c)⟩
theorem VD{x y:Rat}(a:0<x)(b:0<y):(rf (x*y)).1<=(rf x).1*(rf y).1:=by
 rw[<-Ca];exact(uG (cT (cW a) (cW b)) (cT (ck x) (ck y))).1
theorem vV{x y:Rat}(b:0<x)(a:0<y):x/y=(((rf x).1*(rf y).2:Int):Rat)/(((rf x).2*(rf y).1:Int):Rat):=by
 have h1:=iO (gR (ck x));have h2:=iO (gR (ck y));have c:=iO (gR (cW a));conv=>lhs;rw[<-iJ x,<-iJ y]
 rw[gU,gU];grind
theorem KL{Ts:Bz}{s:bg}(d:∀T∈Ts,h_ T)(h:cU Ts s):0<b8 Ts s/\(rf (b8 Ts s)).1<=4000000000000/\(rf (b8 Ts s)).2<=4000000000000:=by
 obtain⟨T,h1,h2,e⟩:=h;have b:=d T (cS h1);have f2:=mC b h2;have a:=mC b e;unfold b8;rw[iZ h1,iZ h1];have p2:=cW f2.pos;have f:=cW a.pos;have c:=ck (aB T s.2.1);have d3:=ck (aB T s.2.2);have hpos:0<aB T s.2.2/aB T s.2.1:=by
  rw[vd];exact mQ a.pos (Rat.inv_pos.mpr f2.pos)
 refine⟨hpos,?_⟩;rw[vV a.pos f2.pos];obtain⟨k1,k2⟩:=uG (cT f c) (cT d3 p2);have g:(rf (aB T s.2.2)).1*(rf (aB T s.2.1)).2<=2000000*2000000:=dH a.num f2.den (dO c) δ;have i:(rf (aB T s.2.2)).2*(rf (aB T s.2.1)).1<=2000000*2000000:=dH a.den f2.num (dO p2) δ;exact⟨ω,ω⟩
theorem EE{Ts:Bz}(a:∀T∈Ts,h_ T):∀(ss:List bg) (x:Rat) (k:Nat),(∀s∈ss,cU Ts s)->0<x->(rf x).1<=(4000000000000:Int) ^ k->0<ss.foldl (λx s=>x*b8 Ts s) x/\(rf (ss.foldl (λx s=>x*b8 Ts s) x)).1<=(4000000000000:Int) ^ (k+ss.length)
 |[],x,k,_,h1,h2=>⟨h1,h2⟩
 |s::ss,x,k,b,h1,h2=>by
  obtain⟨p,q,_⟩:=KL a (b s (bA ..));have c:(rf (x*b8 Ts s)).1<=(4000000000000:Int) ^ (k+1):=by
   refine eN (VD h1 p) ?_;rw[jn];exact dH h2 q (dO (cW p)) (mL δ)
  have:=EE a ss (x*b8 Ts s) (k+1) (λy d=>b y (bz _ d)) (mQ h1 p) c;rw[gF,iw,(ω:k+(ss.length+1)=k+1+ss.length)];exact this
theorem vK{Ts:Bz}(a:∀T∈Ts,h_ T){ss:List bg}(b:∀s∈ss,cU Ts s):0<cO Ts ss/\(rf (cO Ts ss)).1<=(4000000000000:Int) ^ ss.length:=by
 have:=EE a ss 1 0 b δ (by rw[uH];decide);rw[zero_add] at this;exact this
theorem qx(Ts:Bz)(ss:List bg)(s:bg):cO Ts (ss++[s])=cO Ts ss*b8 Ts s:=by
 unfold cO;rw[nX];rfl
theorem GZ{A:Ar}{t:Nat}{T:Tb}{n:Str}{R:DK}(h:TabAt A t T)(a:n∈ai T)(k:R (fq (aB T n)) A):l_ t (.str n) A R:=by
 rcases h with h|⟨o,h⟩
 .exact e9 h rfl (iF a) k
 .exact G1 h rfl (iF a) k
def Dw:Ct:=λds A R _=>∃q ss,ds=[.ref q]/\A[q]?=some (.lst (ss.map bE))/\ss.length<=100/\∀A' p,Gr A A'->A'[p]?=some (.lst ((bwd ss).map bE))->A.length<=p->R (.ref p) A'
def vA:Ct:=λds A R _=>∃r q Ts ss,ds=[.ref r,.ref q]/\iM A r Ts/\(∀T∈Ts,h_ T)/\A[q]?=some (.lst (ss.map bE))/\(∀s∈ss,cU Ts s)/\ss.length<=45/\∀A',Gr A A'->R (fq (cO Ts ss)) A'
theorem UZ{c k:Nat}(h:c ^ (k+1)<2 ^ 2000):(c:Int) ^ k*(c:Int)<2 ^ 2000:=by
 have e:(c:Int) ^ k*(c:Int)=((c ^ (k+1):Nat):Int):=by rw[u0,jn]
 rw[e];have h2:((2 ^ 2000:Nat):Int)=(2:Int) ^ 2000:=u0 2 2000;rw[<-h2];exact Int.ofNat_lt.mpr h
theorem BV{k:Nat}(h:k<=45):(4000000000000:Int) ^ k*4000000000000<2 ^ 2000:=
 UZ (c:=4000000000000) (Nat.lt_of_le_of_lt (fK δ (ω:k+1<=46)) η)
noncomputable def jC(T:Tb):Str:=open Classical in if h:∃m,m∈ai T/\∀n∈ai T,¬n.cps.toList<m.cps.toList then Classical.choose h else default
theorem Hy{T:Tb}{m:Str}(h1:m∈ai T)(h2:∀n∈ai T,¬n.cps.toList<m.cps.toList):jC T=m:=by
 have h:∃m,m∈ai T/\∀n∈ai T,¬n.cps.toList<m.cps.toList:=⟨m,h1,h2⟩;have e:jC T=Classical.choose h:=by unfold jC;rw[dif_pos h]
 obtain⟨k1,k2⟩:=Classical.choose_spec h;rw[e];generalize Classical.choose h=x at k1 k2;have a:=h2 x k1;have b:=k2 m h1;have c:x.cps.toList=m.cps.toList:=le_antisymm (not_lt.mp b) (not_lt.mp a);obtain⟨⟨x⟩⟩:=x;obtain⟨⟨m⟩⟩:=m;simp at c;rw[c]
noncomputable def ju(p:Tb×Nat):List bg:=(ai p.1).map (λo=>(p.2,jC p.1,o))
noncomputable def jW(Ts:Bz):List bg:=Ts.zipIdx.flatMap ju
def DB:Ct:=λds A R _=>∃r Ts,ds=[.ref r]/\iM A r Ts/\Ts.length<=7/\(∀T∈Ts,h_ T)/\∀A' q,Gr A A'->A'[q]?=some (.lst ((jW Ts).map bE))->A.length<=q->R (.ref q) A'
theorem Ew:∀(l:List (Tb×Nat)),(∀p∈l,p.1.length<=32)->(l.flatMap ju).length<=32*l.length
 |[],_=>by simp
 |p::l,h=>by
  have h1:=Ew l λq a=>h q (bz _ a);have h2:(ju p).length<=32:=by
   unfold ju;rw[aQ];have:=h p (bA ..);simpa[ai] using this
  rw[sq,dZ,iw];omega
theorem OP(T:TopD K mg "backward" Jw xA)(g:mg "reversed"=none):av P w K mg base 1 "backward" xA (au mg 1 Dw):=by
 refine bW T Wc λk l m n nd=>⟨_,(aD (aP (fk (some 3) (own:=[κq,"one",κk]) (aw:=[]) (ix:=[]) rfl (N9 g (aa (vr 0) af)) (λc=>(mq rfl (gj (pG 0 (η:([κq,"one",κk]:Ap).Nodup)) (gj (pG 1 (η:([κq,"one",κk]:Ap).Nodup)) (gj (pG 2 (η:([κq,"one",κk]:Ap).Nodup)) mu))))) (λc=>(cE (aa (vr 0) (aa (vr 2) (aa (vr 1) af)))))))),λds A R h hl=>?_⟩;obtain⟨o,ss,rfl,h1,i,q⟩:=h;have hz:(1000:Nat)<=sizeLine:=δ
 refine Be h1 ?_;refine gb (f:=λd=>match d with|.tup [a,b,c]=>.tup [a,c,b]|d=>d) h1 _ _ (λd hd=>?_) (by simp;omega) ?_
 .rw[List.mem_reverse] at hd
  obtain⟨st,_,rfl⟩:=aS.mp hd;exact⟨[.int ((st.1:Nat):Int),.str st.2.1,.str st.2.2],rfl,λQ j=>⟨(ω:3<=sizeLine),j⟩⟩
 have e:((ss.map bE).reverse.map λd=>match d with|.tup [a,b,c]=>D.tup [a,c,b]|d=>d)=(bwd ss).map bE:=by
  unfold bwd;rw[<-List.map_reverse,bH,bH];rfl
 rw[d_,e];exact q _ _ Gr.push aI (aJ _)
theorem OV(T:TopD K mg "comes_to" JE qZ)(k:av P w K mg base 3 "product" ux (au mg 2 sJ))(i:av P w K mg base 3 "quotient" xU (au mg 2 (λds A R E=>∃a b c d:Int,ds=[.tup [.int a,.int b],.tup [.int c,.int d]]/\sJ [.tup [.int a,.int b],.tup [.int d,.int c]] A R E))):av P w K mg base 4 "comes_to" qZ (au mg 2 vA):=by
 refine bW T Wk λN hR O H nd=>⟨_,(aE (dS 2 nd (cE (aa aj (aa aj af))))
  (aE (d8 dM rfl (cj (vr 1)) (oO rfl (gK (dG 3 nd) (gK (dG 4 nd) (gK (dG 5 nd) oQ)))) (aD (dS 2 nd (dL k N O (aa (vr 2) (aa (dL i N O (aa (dX H (dX H (vr 0) (vr 3)) (vr 5)) (aa (dX H (dX H (vr 0) (vr 3)) (vr 4)) af))) af))))))
  (aD (aP (vr 2))))),λds A R h hl=>?_⟩
 obtain⟨r,q0,Ts,ss,rfl,hB,J,h1,Q,S,q⟩:=h;obtain⟨I,n,o⟩:=hB;have hz:(1000:Nat)<=sizeLine:=δ
 refine⟨(ω:2<=sizeLine),dJ h1 ?_⟩;refine eF (λrest τ A'=>∃(l f:List bg) (x y z:Option D),rest=f.map bE/\l++f=ss/\τ=[some (.ref r),some (.ref q0),some (fq (cO Ts l)),x,y,z]/\Gr A A') ?_ ?_ ?_ _ _ _ ⟨[],ss,none,none,none,rfl,rfl,rfl,Gr.refl⟩
 .rintro rest τ A' ⟨_,_,_,_,_,_,_,_,g⟩
  exact g.get h1
 .rintro v rest τ A1 ⟨l,f,x,y,z,e,j,rfl,g⟩ Nx hN
  cases f with
  |nil=>cases e
  |cons st f=>
  cases e;have p:=Q st (by rw[<-j];simp);have L:∀s∈l,cU Ts s:=λs h=>Q s (by rw[<-j];simp[h]);obtain⟨c1,c2⟩:=vK J L;obtain⟨U,d2,d3⟩:=KL J p;have ldn:l.length<=45:=by
   have:=cB List.length j;simp at this;omega
  obtain⟨T0,u,V,W⟩:=p;have M:st.1<I.length:=by rw[o.len];exact(bP.mp u).1
  obtain⟨t,B⟩:∃t,I[st.1]?=some t:=⟨I[st.1],a_ M⟩;obtain⟨T1,C,hA⟩:=o.get B;rw[u] at C;cases C;have F:=hA.gr g;have G:cV (I.map D.ref) ((st.1:Nat):Int)=some (.ref t):=mY (by rw[bM,B];rfl);have m:=J T0 (cS u);have f1:=mC m V;have f2:=mC m W;have X:=cW f1.pos;have p2:=cW f2.pos;have Y:=ck (aB T0 st.2.1);have Z:=ck (aB T0 st.2.2);have Mt:(2000000:Int)<2 ^ 64:=δ
  have n1:=f1.num;have n2:=f2.num;have k1:=f1.den;have k2:=f2.den;refine⟨rfl,jg (g.get n) G (GZ F W (jg (g.get n) G (GZ F V ?_)))⟩;refine⟨rfl,_,_,_,_,rfl,_,_,_,_,rfl,p2,Z,Y,X,ω,ω,?_,λA2 g2=>?_⟩
  .have:(rf (aB T0 st.2.2)).1*(rf (aB T0 st.2.1)).2<=2000000*2000000:=dH n2 k1 (dO Y) δ
   exact rM (show _<=(4000000000000:Int) ^ 0*4000000000000 by rw[Int.pow_zero];omega) (BV δ)
  have eq:((rf (aB T0 st.2.2)).1:Rat)/((rf (aB T0 st.2.2)).2:Rat)*(((rf (aB T0 st.2.1)).2:Rat)/((rf (aB T0 st.2.1)).1:Rat))=b8 Ts st:=by
   unfold b8;rw[iZ u,iZ u,<-mul_div Z X,<-vV f2.pos f1.pos]
  rw[eq];refine⟨rfl,_,_,_,_,rfl,cW c1,ck _,cW U,ck _,ω,ω,?_,λA3 g3=>?_⟩
  .refine rM ?_ (BV ldn)
   exact dH c2 d2 (dO (cW U)) (mL δ)
  rw[iJ,iJ];exact hN _ _ ⟨l++[st],f,_,_,_,rfl,by simpa using j,by rw[qx];rfl,(g.trans g2).trans g3⟩
 .rintro τ A1 ⟨l,f,x,y,z,e,j,rfl,g⟩
  cases f with
  |cons _ _=>cases e
  |nil=>
  have j:l=ss:=by simpa using j
  subst j;exact q _ g
theorem OU(T:TopD K mg "closing_steps" JD xF)(a:mg "enumerate"=none)(k:mg "min"=none):av P w K mg base 1 "closing_steps" xF (au mg 1 DB):=by
 refine bW T Wj λW X Y Z nd=>⟨_,(aE (dS 1 nd (dI af))
  (aE (d8 dM rfl (Fp a (aa (vr 0) af)) (oO rfl (gK (dG 2 nd) (gK (dG 3 nd) oQ))) (aE (dS 4 nd (dz (MJ rfl) NG k boot_min (aa (vr 3) af)))
  (aD (fm (gJ gQ pT rS t_ sY (vr 1) (aa (Al (fk none (own:=[κk]) (aw:=[κq,"first"]) (ix:=[2,4]) rfl (vU (vr 3)) (λc=>(pG 0 (η:([κk,κq,"first"]:Ap).Nodup))) (λc=>(cE (aa (vr 1) (aa (vr 2) (aa (vr 0) af))))))) af))))))
  (aD (aP (vr 1))))),λds A R h hl=>?_⟩
 obtain⟨r,Ts,rfl,J,h7,b,q⟩:=h;obtain⟨d,h1,h2⟩:=J;have hz:(1000:Nat)<=sizeLine:=δ
 have B:=h2.len;have C:∀T∈Ts,T.length<=32:=λT u=>(b T u).len;have len:∀i,((Ts.zipIdx.take i).flatMap ju).length<=224:=λi=>by
  have:=Ew (Ts.zipIdx.take i) λp L=>by
   have:=rP.mp (rO L);exact C _ (cS this)
  rw[nJ,yL] at this;omega
 refine⟨cA _,Be (getElem?_push h1) ?_⟩;refine eF (λrest τ A'=>∃(i:Nat) (x y z:Option D),i<=d.length/\rest=(iR (d.map D.ref)).drop i/\τ=[some (.ref r),some (.ref A.length),x,y,z]/\A'[A.length]?=some (.lst (((Ts.zipIdx.take i).flatMap ju).map bE))/\Gr A A') ?_ ?_ ?_ _ _ _ ⟨0,none,none,none,cA _,rfl,rfl,aI,Gr.push⟩
 .rintro rest τ A' ⟨i,x,y,z,_,_,_,_,g⟩
  exact g.get h1
 .rintro v rest τ M ⟨i,x,y,z,hi,e,rfl,hc,g⟩ Nx N
  by_cases l:i<d.length
  .obtain⟨t,I⟩:∃t,d[i]?=some t:=⟨d[i],a_ l⟩
   obtain⟨T0,u,O⟩:=h2.get I;have n:=O.gr g;have f:i<(iR (d.map D.ref)).length:=by rw[qF,aQ];exact l
   have ev:=FL (ds:=d.map D.ref) (i:=i) (x:=.ref t) (by rw[bM,I];rfl);rw[nW f] at e;rw[a_ f] at ev;have ev:=Option.some.inj ev;rw[ev] at e;cases e;have j:=b T0 (cS u);have E:((Ts.zipIdx.take (i+1)).flatMap ju)=((Ts.zipIdx.take i).flatMap ju)++ju (T0,i):=by
    rw[Ln u,sj];simp
   have ln:=len i;have F:ai T0≠[]:=λz=>j.ne (by simpa[ai] using z);have S:=j.len;have G:(ai T0).length=T0.length:=by simp[ai]
   refine⟨rfl,SI n (qQ T0) F λm U s=>?_⟩;have H:=Hy U s;refine⟨gf hc,Gg (λo=>.tup [.int ((i:Nat):Int),.str m,o]) rfl n ω (λA' o ho Q V=>⟨(ω:3<=sizeLine),V⟩) ?_⟩;refine tF (getElem?_push hc) aI (by rw[aQ,aQ,G];omega) ?_;have em:((ai T0).map λo=>D.tup [.int ((i:Nat):Int),.str m,.str o])=(ju (T0,i)).map bE:=by
    unfold ju;rw[bH,H];rfl
   refine N _ _ ⟨i+1,_,_,_,ω,rfl,rfl,?_,(g.trans Gr.push).set (aJ _)⟩;rw[E,di,em];exact get_set (getElem?_push hc)
  .rw[ve (by rw[qF,aQ];omega)] at e
   cases e
 .rintro τ M ⟨i,x,y,z,hi,e,rfl,hc,g⟩
  have hi:i=d.length:=by
   have:=cB List.length e;simp[qF] at this;omega
  rw[hi,B,zc (by rw[yL];exact aJ _)] at hc;exact q _ _ g hc (aJ _)
def gi(Gs:List bf)(n:Str):List bg:=Gs.foldl (λacc P=>if n∈aH P then c9 P n else acc) []
theorem R9(Gs:List bf)(P:bf)(n:Str):gi (Gs++[P]) n=if n∈aH P then c9 P n else gi Gs n:=by
 unfold gi;rw[nX];rfl
noncomputable def iX(Ts:Bz)(s:bg):List bg:=gi (bO Ts) s.2.1++[s]++bwd (gi (bO Ts) s.2.2)
noncomputable def ff(Ts:Bz):Option (List bg):=((jW Ts).map (iX Ts)).find? (λss=> !decide (cO Ts ss=1))
theorem fS.get{lo:Nat}{A:Ar}:∀{qs:B2} {Ps:List bf} {i q:Nat},fS lo A qs Ps->qs[i]?=some q->∃P,Ps[i]?=some P/\g_ lo A q P
 |[],[],i,t,_,e=>by simp at e
 |t::a,T::Ts,0,_,h,e=>by
  simp at e;subst e;exact⟨T,rfl,h.1⟩
 |t::a,T::Ts,i+1,_,h,e=>by
  obtain⟨b,h1,h2⟩:=fS.get (i:=i) h.2 (by simpa using e);exact⟨b,by simpa using h1,h2⟩
 |[],_::_,_,_,h,_=>h.elim
 |_::_,[],_,_,h,_=>h.elim
theorem Gz{Ts:Bz}:∀(ns:Ap) (Gs:List bf) (P:bf),P∈ns.foldl (dj Ts) Gs->P∈Gs\/∃n∈ns,P=aY Ts n
 |[],Gs,P,h=>.inl h
 |n::ns,Gs,P,h=>by
  rcases Gz ns (dj Ts Gs n) P h with h|⟨m,h1,h2⟩
  .unfold dj at h
   split at h
   .exact .inl h
   .rcases cu.mp h with h|h
    .exact .inl h
    .exact .inr ⟨n,bA ..,bS.mp h⟩
  .exact .inr ⟨m,bz _ h1,h2⟩
theorem jy{Ts:Bz}{NN:Ap}(ar:d7 Ts NN){P:bf}(h:P∈bO Ts):∃n∈NN,(∃T∈Ts,n∈ai T)/\P=aY Ts n:=by
 rcases Gz _ _ P h with h|⟨n,h1,h2⟩
 .cases h
 .obtain⟨T,a,b⟩:=fX.mp h1
  exact⟨n,ar.sub T a n b,⟨T,a,b⟩,h2⟩
theorem Ef{Ts:Bz}:∀(f i:Nat) (P:bf),(∀p∈P,∀s∈p.2,cU Ts s)->∀p∈eE Ts f i P,∀s∈p.2,cU Ts s
 |0,i,P,h=>h
 |f+1,i,P,h=>by
  cases e:P[i]? with
  |none=>
   have:eE Ts (f+1) i P=P:=by
    show(match P[i]? with|some p=>eE Ts f (i+1) ((eL Ts p.1).foldl cM P)|none=>P)=_;rw[e]
   rw[this];exact h
  |some d=>
   rw[sR e];refine Ef f (i+1) _ ?_;have key:∀(ss:List bg) (Q:bf),(∀s∈ss,s∈eL Ts d.1)->(∀p∈Q,∀s∈p.2,cU Ts s)->∀p∈ss.foldl cM Q,∀s∈p.2,cU Ts s:=by
    intro ss;induction ss with
    |nil=>intro Q _ h;exact h
    |cons s ss g=>
     intro Q b a;refine g _ (λx j=>b x (bz _ j)) λp hp s' hs'=>?_;unfold cM at hp;split at hp
     .exact a p hp s' hs'
     .rcases cu.mp hp with hp|hp
      .exact a p hp s' hs'
      .rw[bS.mp hp] at hs'
       rcases cu.mp hs' with hs'|hs'
       .by_cases c:s.2.1∈aH Q
        .exact a _ (ji c) s' hs'
        .have k:c9 Q s.2.1=[]:=by
          have:=find_some (T:=Q) (n:=s.2.1);rw[fh (show ¬s.2.1∈Q.map (·.1) from c)] at this;unfold c9;cases e:Q.find? (λp=>decide (p.1=s.2.1)) with
          |none=>rfl
          |some p=>rw[e] at this;cases this
         rw[k] at hs';cases hs'
       .rw[bS.mp hs']
        obtain⟨T,h1,h2,l,m⟩:=o9.mp (b s (bA ..));exact⟨T,h1,by rw[l];exact h2,m⟩
   exact key _ _ (λs h=>h) h
theorem yb{Ts:Bz}{n:Str}:∀p∈aY Ts n,∀s∈p.2,cU Ts s:=
 Ef 14 0 _ λp b s a=>by
  have:p=(n,[]):=by simpa using b
  rw[this] at a;cases a
theorem Hr{Ts:Bz}{NN:Ap}(ar:d7 Ts NN)(n:Str):∀(Gs:List bf) (acc:List bg),(∀P∈Gs,P∈bO Ts)->((∀s∈acc,cU Ts s)/\acc.length<=NN.length - 1)->(∀s∈Gs.foldl (λacc P=>if n∈aH P then c9 P n else acc) acc,cU Ts s)/\(Gs.foldl (λacc P=>if n∈aH P then c9 P n else acc) acc).length<=NN.length - 1
 |[],acc,_,h=>h
 |P::Gs,acc,h,c=>by
  rw[gF];refine Hr ar n Gs _ (λQ d=>h Q (bz _ d)) ?_;split
  .rename_i e
   obtain⟨m,f,_,rfl⟩:=jy ar (h P (bA ..));obtain⟨b,_,_⟩:=j6 ar f;have a:=ji e;refine⟨yb _ a,?_⟩;have h1:=b.pl _ a;have h2:=b.len;simp at h1;omega
  .exact c
theorem qS{Ts:Bz}{NN:Ap}(ar:d7 Ts NN)(Gs:List bf)(n:Str)(h:∀P∈Gs,P∈bO Ts):(∀s∈gi Gs n,cU Ts s)/\(gi Gs n).length<=NN.length - 1:=
 Hr ar n Gs [] h ⟨(λs h=>by cases h),cA _⟩
theorem MB{Ts:Bz}{ss:List bg}(h:∀s∈ss,cU Ts s):∀s∈bwd ss,cU Ts s:=λs d=>by
 unfold bwd at d;obtain⟨s',h1,rfl⟩:=aS.mp d;obtain⟨T,a,b,c⟩:=h s' (List.mem_reverse.mp h1);exact⟨T,a,c,b⟩
theorem z5{Ts:Bz}{s:bg}(h:s∈jW Ts):∃T,Ts[s.1]?=some T/\s.2.1=jC T/\s.2.2∈ai T:=by
 unfold jW at h;obtain⟨⟨T,i⟩,a,b⟩:=fX.mp h;have a:=rP.mp a;unfold ju at b;obtain⟨o,c,rfl⟩:=aS.mp b;exact⟨T,a,rfl,c⟩
theorem wZ{T:Tb}(h:T≠[]):jC T∈ai T/\∀n∈ai T,¬n.cps.toList<(jC T).cps.toList:=by
 have key:∀ns:Ap,ns≠[]->∃m,m∈ns/\∀n∈ns,¬n.cps.toList<m.cps.toList:=by
  intro ns;induction ns with
  |nil=>intro h;exact absurd rfl h
  |cons a ns c=>
   intro _;by_cases hn:ns=[]
   .subst hn
    exact⟨a,θ,λn hn=>by
     have:n=a:=by simpa using hn
     rw[this];exact lJ _⟩
   .obtain⟨m,h1,h2⟩:=c hn
    by_cases b:a.cps.toList<m.cps.toList
    .refine⟨a,θ,λn hn=>?_⟩
     rcases bx.mp hn with rfl|hn
     .exact lJ _
     .exact λz=>h2 n hn (vc z b)
    .refine⟨m,by simp[h1],λn hn=>?_⟩
     rcases bx.mp hn with rfl|hn
     .exact b
     .exact h2 n hn
 obtain⟨m,h1,h2⟩:=key (ai T) (λz=>h (by simpa[ai] using z));rw[Hy h1 h2];exact⟨h1,h2⟩
theorem Cb{Ts:Bz}{NN:Ap}(ar:d7 Ts NN){s:bg}(h:s∈jW Ts):(∀x∈iX Ts s,cU Ts x)/\(iX Ts s).length<=2*(NN.length - 1)+1:=by
 obtain⟨T,h1,h2,a⟩:=z5 h;have b:=cS h1;obtain⟨a1,a2⟩:=qS ar (bO Ts) s.2.1 λP h=>h;obtain⟨c,e⟩:=qS ar (bO Ts) s.2.2 λP h=>h;have d:cU Ts s:=⟨T,h1,by rw[h2];exact(wZ (ar.tok T b).ne).1,a⟩;unfold iX;constructor
 .intro x hx
  rcases cu.mp hx with hx|hx
  .rcases cu.mp hx with hx|hx
   .exact a1 x hx
   .rw[bS.mp hx]
    exact d
  .exact MB c x hx
 .simp[bwd]
  omega
def zK:Ct:=λds A R _=>∃r Ts NN,ds=[.ref r]/\iM A r Ts/\d7 Ts NN/\(ff Ts=none->∀A',Gr A A'->R .aG A')/\∀ss,ff Ts=some ss->∀A' q,Gr A A'->A'[q]?=some (.lst (ss.map bE))->A.length<=q->R (.ref q) A'
def zI:Ct:=λds A R E=>∃r Ts NN,ds=[.ref r]/\iM A r Ts/\d7 Ts NN/\(ff Ts=none->∀A',Gr A A'->R .aG A')/\(ff Ts≠none->∀A',Gr A A'->E "Never" A')
theorem BE:∀(a kvs:List (Key×D)) (k:Key),(a.map (·.1)).Nodup->bF (kQ kvs a) k=match bF a k with|some v=>some v|none=>bF kvs k
 |[],kvs,k,_=>rfl
 |p::a,kvs,k,c=>by
  have b:=lD.mp (show(p.1::a.map (·.1)).Nodup from c);show bF (kQ (cP kvs p.1 p.2) a) k=_;rw[BE a _ k b.2,wk];show _=match (if p.1=k then some p.2 else bF a k) with|some v=>some v|none=>bF kvs k
  by_cases e:p.1=k
  .rw[aC e,aC e]
   have:bF a k=none:=by
    cases h:bF a k with
    |none=>rfl
    |some v=>
     exfalso;refine b.1 ?_;rw[e];clear BE c b;induction a with
     |nil=>cases h
     |cons q a f=>
      have h:(if q.1=k then some q.2 else bF a k)=some v:=h;by_cases d:q.1=k
      .simp[d]
      .rw[ay d] at h
       simp[f h]
   rw[this]
  .rw[ay e,ay e]
def sD(b:Nat)(NN:Ap)(A:Ar)(Gs:List bf):Prop:=∃(kvs:List (Key×D)) (ns:Ap),A[b]?=some (.dct kvs)/\kvs.map (·.1)=ns.map Sum.inr/\ns.Nodup/\(∀n,n∈ns↔n∈fu Gs)/\(∀n∈ns,n∈NN)/\∀n∈ns,∃a,b<a/\bF kvs (Sum.inr n)=some (.ref a)/\A[a]?=some (.lst ((gi Gs n).map bE))
theorem sD.gr{b:Nat}{NN:Ap}{A B:Ar}{Gs:List bf}(h:sD b NN A Gs)(g:Gr A B):sD b NN B Gs:=by
 obtain⟨kvs,ns,h1,h2,c,d,e,f⟩:=h;exact⟨kvs,ns,g.get h1,h2,c,d,e,λn i=>by obtain⟨a,x,y,z⟩:=f n i;exact⟨a,x,y,g.get z⟩⟩
theorem HF{ns:Ap}(h:ns.Nodup):(ns.map (Sum.inr:Str->Key)).Nodup:=by
 exact Pairwise.map _ (λa b c e=>c (Sum.inr.inj e)) h
theorem PF(T:TopD K mg "find_ring" JF um)(l:av P w K mg base 3 "groups" q7 (au mg 1 vB))(d:av P w K mg base 1 "closing_steps" xF (au mg 1 DB))(f:av P w K mg base 1 "backward" xA (au mg 1 Dw))(j:av P w K mg base 4 "comes_to" qZ (au mg 2 vA)):av P w K mg base 5 "find_ring" um (au mg 1 zK):=by
 refine bW T Wl λX hR Y L nd=>⟨_,(aE (dS 1 nd Ak)
  (aE (d8 dM rfl (cj (dL l X Y (aa (vr 0) af))) (dG 2 nd) (aD (fm (E8 PySem.F.plainAttrs_dict slot_dict_update PySem.F.type_dict_update HB E5 (vr 1) (aa (vr 2) af)))))
  (aE (d8 dM rfl (cj (dL d X Y (aa (vr 0) af))) (dG 3 nd) (aE (dS 4 nd (dP (dP (dX L (vr 1) (dX L (vr 3) aj)) (dI (aa (vr 3) af))) (dL f X Y (aa (dX L (vr 1) (dX L (vr 3) aj)) af))))
  (aD (bY (jG L (dL j X Y (aa (vr 0) (aa (vr 4) af))) (cE (aa aj (aa aj af)))) (aD (aP (vr 4))) b_))))
  (aD (aP jX))))),λds A R h hl=>?_⟩
 obtain⟨r,Ts,NN,rfl,hB,ar,q1,q2⟩:=h;have hz:(1000:Nat)<=sizeLine:=δ
 have e1:(A++[C.dct []]).length=A.length+1:=θ
 refine⟨rfl,r,Ts,NN,rfl,hB.gr Gr.push,ar,λA1 q0 g1 hG=>?_⟩;obtain⟨lq,gs,M,B⟩:=hG;rw[e1] at lq B;have tX:=B.len;have Qv:sD A.length NN A1 []:=⟨[],[],g1.get aI,rfl,nodup_nil,λn=>by simp[fu],(λn h=>by cases h),(λn h=>by cases h)⟩;have P_:Gr A A1:=Gr.push.trans g1;refine dJ M ?_;refine eF (λrest τ A'=>∃(i:Nat) (x:Option D),i<=gs.length/\rest=(gs.map D.ref).drop i/\τ=[some (.ref r),some (.ref A.length),x,none,none]/\sD A.length NN A' ((bO Ts).take i)/\A'[q0]?=some (.lst (gs.map D.ref))/\fS (A.length+1) A' gs (bO Ts)/\Gr A A') ?_ ?_ ?_ _ _ _ ⟨0,none,cA _,rfl,rfl,Qv,M,B,P_⟩
 .rintro rest τ A' ⟨_,_,_,_,_,_,h,_,_⟩
  exact h
 .rintro v rest τ A2 ⟨i,x,hi,e,rfl,Z,hq,hP,E⟩ Nx hN
  by_cases N:i<gs.length
  .obtain⟨t,ht⟩:∃t,gs[i]?=some t:=⟨gs[i],a_ N⟩
   obtain⟨P0,O,Qz⟩:=hP.get ht;have u:i<(gs.map D.ref).length:=by rw[aQ];exact N
   have ev:(gs.map D.ref)[i]?=some (.ref t):=by rw[bM,ht];rfl
   rw[nW u] at e;rw[a_ u] at ev;have ev:=Option.some.inj ev;rw[ev] at e;cases e;obtain⟨m,hm,_,eP⟩:=jy ar (cS O);obtain⟨p,_,_⟩:=j6 ar hm;rw[<-eP] at p;obtain⟨Sf,b,m1,m2,m3⟩:=id Qz;obtain⟨kvs,ns,k1,k2,k3,k4,k5,k6⟩:=Z;have AA:(bO Ts).take (i+1)=(bO Ts).take i++[P0]:=by rw[take_succ,O];rfl
   have ln:ns.length<=12:=dF (j5 ns NN k3 k5) ar.nn;have R7:kvs.length=ns.length:=by
    have:=cB List.length k2;simpa using this
   have R8:b.length=P0.length:=by
    have:=cB List.length m2;simpa[aH] using this
   have lP:=p.len;have Tc:=ar.nn;obtain⟨ns',j1,j2,j3⟩:=HA k2 m2 k3;have SO:(b.map (·.1)).Nodup:=by rw[m2];exact HF p.nd
   refine⟨GW k1,Lh k1 m1 ω ω ?_⟩;refine hN _ _ ⟨i+1,_,ω,rfl,rfl,?_,gy ω hq,hP.kO λq P z=>z.set ω,E.set (aJ _)⟩;rw[AA];refine⟨_,ns',uK k1,j1,j2,λn=>?_,λn hn=>?_,λn hn=>?_⟩
   .rw[j3,k4]
    simp[fu]
   .rcases (j3 n).mp hn with h'|h'
    .exact k5 n h'
    .exact p.sub n h'
   .rw[BE _ _ _ SO,R9]
    by_cases o:n∈aH P0
    .obtain⟨a,z,ga,ha⟩:=m3 n o
     rw[ga,aC o];exact⟨a,ω,rfl,gy ω ha⟩
    .have hn1:n∈ns:=by
      rcases (j3 n).mp hn with h'|h'
      .exact h'
      .exact absurd h' o
     have e0:bF b (Sum.inr n)=none:=by
      have:=Bh (n:=n) m2;rw[fh o] at this;cases e:bF b (Sum.inr n) with
      |none=>rfl
      |some v=>rw[e] at this;cases this
     obtain⟨a,z,ga,ha⟩:=k6 n hn1;rw[e0,ay o];exact⟨a,z,ga,gy ω ha⟩
  .rw[ve (by rw[aQ];omega)] at e
   cases e
 rintro τ A2 ⟨i,x,hi,e,rfl,Z,hq,hP,E⟩;have hi:i=gs.length:=by
  have:=cB List.length e;simp at this;omega
 rw[hi,tX,take_length] at Z;refine⟨rfl,r,Ts,rfl,hB.gr E,ar.len,ar.tok,λA3 q3 g3 h3 l3=>?_⟩;refine dJ h3 ?_;refine eF (λrest τ A'=>∃(G b:List bg) (y z:Option D),rest=b.map bE/\G++b=jW Ts/\(∀s∈G,cO Ts (iX Ts s)=1)/\τ=[some (.ref r),some (.ref A.length),x,y,z]/\Gr A3 A') ?_ ?_ ?_ _ _ _ ⟨[],jW Ts,none,none,rfl,rfl,(λ_ h=>by cases h),rfl,Gr.refl⟩
 .rintro rest τ A' ⟨_,_,_,_,_,_,_,_,g⟩
  exact g.get h3
 .rintro v rest τ A4 ⟨G,b,y,z,e,k,h1,rfl,J⟩ Nx hN
  cases b with
  |nil=>cases e
  |cons st b=>
  cases e;have Q:st∈jW Ts:=by rw[<-k];simp
  obtain⟨T0,hT,c1,c2⟩:=z5 Q;have H:=cS hT;have n1:st.2.1∈fu (bO Ts):=oV ar H (by rw[c1];exact(wZ (ar.tok T0 H).ne).1);have n2:st.2.2∈fu (bO Ts):=oV ar H c2;obtain⟨kvs,ns,k1,k2,k3,k4,k5,k6⟩:=Z.gr (g3.trans J);obtain⟨a1,_,Qc,ha1⟩:=k6 _ ((k4 _).mpr n1);obtain⟨a2,_,Qd,ha2⟩:=k6 _ ((k4 _).mpr n2);obtain⟨_,b1⟩:=qS ar (bO Ts) st.2.1 λP h=>h;obtain⟨_,b2⟩:=qS ar (bO Ts) st.2.2 λP h=>h;obtain⟨r1,r2⟩:=Cb ar Q;have nn:=ar.nn;refine e9 k1 rfl Qc ⟨(ω:1<=sizeLine),kG (getElem?_push ha1) aI (by simp;omega) ?_⟩;refine e9 (getElem?_push (getElem?_push k1)) rfl Qd ?_;refine⟨rfl,a2,_,rfl,getElem?_push (getElem?_push ha2),ω,λA5 q5 g5 h5 l5=>?_⟩;have S:A5[(A4++[C.lst [bE st]]).length]?=some (.lst ((gi (bO Ts) st.2.1).map bE++[bE st])):=g5.get aI;have Y_:(bwd (gi (bO Ts) st.2.2)).length<=11:=by simp[bwd];omega
  refine kG S h5 (by simp;omega) ?_;have em:(gi (bO Ts) st.2.1).map bE++[bE st]++(bwd (gi (bO Ts) st.2.2)).map bE=(iX Ts st).map bE:=by
   unfold iX;simp
  rw[em];have U:Gr A4 (A5++[C.lst ((iX Ts st).map bE)]):=((Gr.push.trans Gr.push).trans g5).trans Gr.push;have V:=(g3.trans J).trans U;refine⟨rfl,r,A5.length,Ts,iX Ts st,rfl,hB.gr (E.trans V),ar.tok,aI,r1,ω,λA6 g6=>⟨(ω:2<=sizeLine),w4 (y:=1) ?_⟩⟩;refine cN (λc=>?_) (λc=>?_)
  .have er:ff Ts=some (iX Ts st):=by
    unfold ff;rw[<-k,di,find?_append,cJ];have e0:(G.map (iX Ts)).find? (λss=> !decide (cO Ts ss=1))=none:=by
     rw[qc];intro ss I;obtain⟨s,W,rfl⟩:=aS.mp I;simp[h1 s W]
    rw[e0,List.find?_cons_of_pos (by simpa using c)];rfl
   have ll:=(E.trans (g3.trans J)).len;have RU:=g5.len;simp at RU;exact q2 _ er A6 _ ((E.trans V).trans g6) (g6.get aI) ω
  .refine hN _ _ ⟨G++[st],b,_,_,rfl,by simpa using k,λs W=>?_,rfl,(J.trans U).trans g6⟩
   rcases cu.mp W with h'|h'
   .exact h1 s h'
   .rw[bS.mp h']
    exact c
 .rintro τ A4 ⟨G,b,y,z,e,k,h1,rfl,J⟩
  cases b with
  |cons _ _=>cases e
  |nil=>
  have k:G=jW Ts:=by simpa using k
  subst k;refine q1 ?_ _ ((E.trans g3).trans J);unfold ff;rw[qc];intro ss I;obtain⟨s,W,rfl⟩:=aS.mp I;simp[h1 s W]
theorem Pp(T:TopD K mg "check_no_ring" JB uh){b:Addr}(c:mg "Never"=some (.ref b))(d:excIn K b nF "ValueError.__new__"=true)(a:av P w K mg base 5 "find_ring" um (au mg 1 zK)):av P w K mg base 6 "check_no_ring" uh (au mg 1 zI):=by
 refine bW T Wh λi j k o nd=>⟨_,(aD (bY (Cz (dL a i k (aa (vr 0) af)) jX) (aD (qE j rfl c d (aa bR af))) b_)),λds A R h hl=>?_⟩;obtain⟨r,Ts,NN,rfl,l,ar,m,n⟩:=h;exact⟨rfl,r,Ts,NN,rfl,l,ar,λe f g=>m e f g,λss e f p g h1 l1=>⟨(δ:1<=sizeLine),n (by rw[e];simp) f g⟩⟩
open Classical in
noncomputable def uc(d:D):Bool:=decide ((∃m,d=enc m/\Wf m/\m.deep<=5)\/d=.aG\/∃s,d=.str s)
noncomputable def iV(A:Ar):D->Bool
 |.tup xs=>xs.all uc
 |.aG=>true
 |.str _=>true
 |.ref r=>match A[r]? with
  |some (.lst _)=>true
  |_=>false
 |_=>false
open Classical in
theorem xg{d:D}:uc d=true↔(∃m,d=enc m/\Wf m/\m.deep<=5)\/d=.aG\/∃s,d=.str s:=by
 unfold uc;exact decide_eq_true_iff
theorem ud{m:M}(h:Wf m)(hd:m.deep<=5):uc (enc m)=true:=xg.mpr (.inl ⟨m,rfl,h,hd⟩)
theorem HV{A:Ar}{r:Nat}(h:iV A (.ref r)=true):∃xs,A[r]?=some (.lst xs):=by
 have h:(match A[r]? with|some (.lst _)=>true|_=>false)=true:=h;split at h
 .rename_i xs e
  exact⟨xs,e⟩
 .cases h
theorem HU{A:Ar}{r:Nat}{xs:Bi}(h:A[r]?=some (.lst xs)):iV A (.ref r)=true:=by
 show(match A[r]? with|some (.lst _)=>true|_=>false)=true;rw[h]
theorem Tr{A A':Ar}(g:Gr A A'):∀x,iV A x=true->iV A' x=true:=λx h=>by
 cases x with
 |ref r=>
  obtain⟨xs,e⟩:=HV h;exact HU (g.get e)
 |_=>exact h
def DG(d:Nat):Ct:=λds A R E=>Mb d ds A R E\/(0<d/\(∃z,ds=[.aG,z]\/∃s,ds=[.str s,z])/\R (.bl false) A)
def zE:Ct:=λds A R E=>Ma ds A R E\/((ds=[.aG]\/∃s,ds=[.str s])/\R (.bl false) A)
theorem O5(T:TopD K mg "is_mobile_within" JM xH)(i:mg "isinstance"=none)(x:mg "str"=none)(u:mg "tuple"=none)(k:mg "len"=none){t:Tok}(g:mg "LONGEST_ARM"=some (.int 9 t))
  (o:av P w K mg base 1 "is_name" uu (au mg 1 zF))(j:av P w K mg base 1 "is_number" q8 (au mg 3 vD)):∀d,av P w K mg base (d+1) "is_mobile_within" xH (au mg 2 (DG d)):=by
 intro d;induction d with
 |zero=>
  refine nc T λds A R RE h=>?_;rcases h with⟨v,⟨m,_,_,h,_⟩,_⟩|⟨h,_⟩<;>omega
 |succ d e=>
  refine jf T Ws rfl δ λN RE f J B outer s H E y hR C ds A R h hl=>?_;have p:=y.units;refine⟨_,(aE (bY (PW.pt (gM (eV (eW (jw kit_tuple i u nU (vr 0)))) (gM (j8 p (dz gI a3 k gS (aa (vr 0) af)) aj) (iD (eV (eW (jw wK i x boot_str (dX p (vr 0) aj)))))))) (aD (aP fL)) b_)
  (aE (bY (j8 p (dX p (vr 0) aj) bR) (aD (aP (m5 (lX p (dz gI a3 k gS (aa (vr 0) af)) aj) (qC (dL o y C (aa (dX p (vr 0) aj) af)))))) b_)
  (aE (bY (PW.pt (gM (jG p (dX p (vr 0) aj) bR) (gM (jG p (dz gI a3 k gS (aa (vr 0) af)) aj) (iD (j8 p (vr 1) aj))))) (aD (aP fL)) b_)
  (aE (bY (PW.pt (gM (eV (eW (dL j y C (aa (dX p (vr 0) aj) (aa aj (aa (qB g) af)))))) (iD (eV (eW (dL j y C (aa (dX p (vr 0) aj) (aa aj (aa (qB g) af))))))))) (aD (aP fL)) b_)
  (aD (aP (m5 (dL e y C (aa (dX p (vr 0) aj) (aa (oM (vr 1) aj) af))) (qC (dL e y C (aa (dX p (vr 0) aj) (aa (oM (vr 1) aj) af))))))))))),?_⟩
  rcases h with⟨v,⟨m,rfl,F,hd,rfl⟩,q⟩|⟨_,⟨z,rfl|⟨s,rfl⟩⟩,q⟩;rotate_left
  .exact q
  .exact q
  cases m with
  |wt n=>
   exact⟨rfl,_,⟨n,rfl,F.nm n (by simp[bK.names]),rfl⟩,q⟩
  |cz l r a b=>
   obtain⟨⟨h1,h2,L,M,O,Q⟩,G⟩:=F;have S:max a.deep b.deep+1<d+1:=hd;have I:((d+1:Nat):Int) - 1 - 1=(d:Int) - 1:=ω
   have U:(decide (1<=l)&&decide (l<=9))=true:=by simp[h1,h2]
   have V:(decide (1<=r)&&decide (r<=9))=true:=by simp[L,M]
   refine cD (λc=>absurd c ω) (λ_=>?_);refine⟨rfl,_,⟨l,1,9,rfl,rfl⟩,λA1 W=>?_⟩;rw[U];refine⟨rfl,_,⟨r,1,9,rfl,rfl⟩,λA2 X=>?_⟩;rw[V];refine⟨rfl,.inl ⟨_,⟨a,show [enc a,D.int (((d+1:Nat):Int) - 1 - 1)]=_ by rw[I],⟨O,λn h=>G n (by simp[bK.names,h])⟩,ω,rfl⟩,λA3 Y=>?_⟩⟩;refine⟨rfl,.inl ⟨_,⟨b,show [enc b,D.int (((d+1:Nat):Int) - 1 - 1)]=_ by rw[I],⟨Q,λn h=>G n (by simp[bK.names,h])⟩,ω,rfl⟩,λA4 Z=>?_⟩⟩;exact q _ (((W.trans X).trans Y).trans Z)
theorem Pk(T:TopD K mg "is_mobile" JL ur){t:Tok}(b:mg "MOST_RODS"=some (.int 5 t))(a:av P w K mg base 7 "is_mobile_within" xH (au mg 2 (DG 6))):av P w K mg base 8 "is_mobile" ur (au mg 1 zE):=by
 refine bW T Wr λc f d g nd=>⟨_,(aD (aP (dL a c d (aa (vr 0) (aa (qB b) af))))),λds A R h hl=>?_⟩;rcases h with⟨v,⟨m,rfl,e,hd,rfl⟩,q⟩|⟨rfl|⟨s,rfl⟩,q⟩
 .exact⟨rfl,.inl ⟨_,⟨m,rfl,e,ω,rfl⟩,q⟩⟩
 .exact⟨rfl,.inr ⟨δ,⟨_,.inl rfl⟩,q⟩⟩
 .exact⟨rfl,.inr ⟨δ,⟨_,.inr ⟨s,rfl⟩⟩,q⟩⟩
theorem OT(T:TopD K mg "check_mobile" JA ug){a:Addr}(c:mg "NoMobile"=some (.ref a))(d:excIn K a nF "ValueError.__new__"=true)(b:av P w K mg base 8 "is_mobile" ur (au mg 1 zE)):av P w K mg base 9 "check_mobile" ug (au mg 1 zB):=by
 refine bW T Wg λe f g k nd=>⟨_,(aD (bY (eV (eW (dL b e g (aa (vr 0) af)))) (aD (qE f rfl c d (aa bR af))) b_)),λds A R h hl=>?_⟩;obtain⟨v,⟨m,rfl,i,hd,rfl⟩,q⟩:=h;exact⟨rfl,.inl ⟨_,⟨m,rfl,i,hd,rfl⟩,λl j=>q _ j⟩⟩
noncomputable def iI(T:Tb)(n:Str)(x:Rat):Tb:=if (T.any λp=>decide (p.1=n))=true then T.map (λp=>if p.1=n then (p.1,x) else p) else T++[(n,x)]
def aM(m:M):Tb:=(b6 m "" 1).foldl (λT p=>iI T p.2.1 p.2.2) []
theorem G7(T:Tb)(n:Str)(x:Rat):bB (iI T n x)=cP (bB T) (Sum.inr n) (fq x):=by
 have e:((bB T).any λa=>decide (a.1=(Sum.inr n:Key)))=T.any λp=>decide (p.1=n):=by
  unfold bB;rw[List.any_map];congr 1;funext p;show decide ((Sum.inr p.1:Key)=Sum.inr n)=decide (p.1=n);by_cases h:p.1=n
  .rw[dc h,dc (by rw[h])]
  .rw[fh h,fh (λz=>h (Sum.inr.inj z))]
 unfold iI cP;rw[e];split
 .unfold bB
  rw[bH,bH];refine rN λp _=>?_;show((Sum.inr (if p.1=n then (p.1,x) else p).1:Key),fq (if p.1=n then (p.1,x) else p).2)=if (Sum.inr p.1:Key)=Sum.inr n then (Sum.inr p.1,fq x) else (Sum.inr p.1,fq p.2)
  by_cases h:p.1=n
  .rw[aC h,aC (by rw[h])]
  .rw[ay h,ay (λz=>h (Sum.inr.inj z))]
 .unfold bB
  simp
theorem Bm:∀(a:List (Str×Str×Rat)) (T:Tb),bB (a.foldl (λT p=>iI T p.2.1 p.2.2) T)=((a.map λp=>(p.2.1,fq p.2.2)).map λp=>((Sum.inr p.1:Key),p.2)).foldl (λacc p=>cP acc p.1 p.2) (bB T)
 |[],T=>rfl
 |p::a,T=>by
  rw[gF,Bm a,G7];rfl
theorem Iv(T:Tb)(n:Str)(x:Rat):ai (iI T n x)=if n∈ai T then ai T else ai T++[n]:=by
 have e:(T.any λp=>decide (p.1=n))=decide (n∈ai T):=by
  rw[nI,nQ,qa];constructor
  .rintro ⟨p,a,h⟩
   rw[<-fY h];exact dN a
  .intro h
   obtain⟨p,a,e⟩:=aS.mp h;exact⟨p,a,dc e⟩
 unfold iI;rw[e];by_cases h:n∈ai T
 .rw[aC (dc h),aC h]
  unfold ai;rw[bH];refine rN λp _=>?_;show(if p.1=n then (p.1,x) else p).1=p.1;split<;>rfl
 .rw[ay (by simpa using h),ay h]
  simp[ai]
theorem Gb:∀(c:List (Str×Str×Rat)) (T:Tb) (g:Str->Rat),(ai T).Nodup->(∀p∈T,p.2=g p.1)->(∀r∈c,r.2.2=g r.2.1)->
  (ai (c.foldl (λT p=>iI T p.2.1 p.2.2) T)).Nodup/\(∀p∈c.foldl (λT p=>iI T p.2.1 p.2.2) T,p.2=g p.1)/\∀n,n∈ai (c.foldl (λT p=>iI T p.2.1 p.2.2) T)↔n∈ai T\/n∈c.map (·.2.1)
 |[],T,g,h1,h2,_=>⟨h1,h2,λn=>θ⟩
 |r::c,T,g,h1,h2,i=>by
  have k1:(ai (iI T r.2.1 r.2.2)).Nodup:=by
   rw[Iv];split
   .exact h1
   .rename_i k
    rw[nK];refine⟨h1,θ,λa l b j=>?_⟩;simp at j;rw[j];exact λz=>k (by rw[<-z];exact l)
  have k2:∀p∈iI T r.2.1 r.2.2,p.2=g p.1:=λp hp=>by
   have e:=i r (bA ..);unfold iI at hp;split at hp
   .obtain⟨d,f,rfl⟩:=aS.mp hp
    by_cases hc:d.1=r.2.1
    .rw[aC hc]
     show r.2.2=g d.1;rw[e,hc]
    .rw[ay hc]
     exact h2 d f
   .rcases cu.mp hp with hp|hp
    .exact h2 p hp
    .rw[bS.mp hp]
     exact e
  obtain⟨m,o,q⟩:=Gb c _ g k1 k2 λx s=>i x (bz _ s);refine⟨m,o,λn=>?_⟩;rw[gF,q,Iv];by_cases h:r.2.1∈ai T
  .rw[aC h]
   simp;constructor
   .rintro (h'|h')
    .exact .inl h'
    .exact .inr (.inr h')
   .rintro (h'|rfl|h')
    .exact .inl h'
    .exact .inl h
    .exact .inr h'
  .rw[ay h]
   simp[or_assoc]
structure Hl(m:M):Prop where
 wf:Wf m
 deep:m.deep<=5
 bar:fC [] (b6 m "" 1)=none
theorem mE{m:M}(h:Hl m):h_ (aM m)/\(∀n,n∈ai (aM m)↔n∈m.names)/\∀n∈ai (aM m),aB (aM m) n=shr m n:=by
 obtain⟨k1,k2⟩:=yr h.bar;obtain⟨c,d,f⟩:=Gb (b6 m "" 1) [] (shr m) nodup_nil (λp a=>by cases a) k1;have g:(b6 m "" 1).map (·.2.1)=m.names:=pN m "" 1;have mem:∀n,n∈ai (aM m)↔n∈m.names:=λn=>by
  show n∈ai ((b6 m "" 1).foldl (λT p=>iI T p.2.1 p.2.2) [])↔_;rw[f,g];simp[ai]
 have i:(ai (aM m)).length=(aM m).length:=by simp[ai]
 have nl:=pq h.deep;refine⟨⟨c,λz=>?_,?_,λp a=>?_⟩,mem,λn b=>?_⟩
 .have hpos:=bK.HD m
  cases e:m.names with
  |nil=>rw[e] at hpos;simp at hpos
  |cons n t=>
   have:=(mem n).mpr (by rw[e];simp);rw[z] at this;cases this
 .have:=j5 (ai (aM m)) m.names c λx j=>(mem x).mp j
  omega
 .have e:p.2=shr m p.1:=d p a
  rw[e];exact Kv h.wf.arms h.deep h.bar ((mem p.1).mp (dN a))
 .have:=find_some (T:=aM m) (n:=n)
  rw[dc (show n∈(aM m).map (·.1) from b)] at this;obtain⟨p,a⟩:=pQ.mp this;unfold aB;rw[a];have h2:=qd a;have k:p.1=n:=fY h2;rw[<-k];exact d p (jJ a)
def DR:Ct:=λds A R _=>∃m,ds=[enc m]/\Hl m/\∀A' q,Gr A A'->A'[q]?=some (.dct (bB (aM m)))->A.length<=q->R (.ref q) A'
def gq(x:D)(ms:D2):Prop:=x=.tup (ms.map enc)/\1<=ms.length/\ms.length<=6/\∀m∈ms,Hl m
def DA:Ct:=λds A R E=>∃x,ds=[x]/\iV A x=true/\((∃ms,gq x ms)->∀A',Gr A A'->R .aG A')/\((¬∃ms,gq x ms)->∀A',Gr A A'->E "NoHall" A')
def sH:Ct:=λds A R E=>∃x,ds=[x]/\iV A x=true/\(∀ms,gq x ms->∀A' q,Gr A A'->iM A' q (ms.map aM)->A.length<=q->R (.ref q) A')/\((¬∃ms,gq x ms)->∀A',Gr A A'->E "NoHall" A')
theorem tu:∀{a b:M},enc a=enc b->a=b
 |.wt n,.wt k,h=>by
  have h:D.tup [.str "weight",.str n]=.tup [.str "weight",.str k]:=h;simp at h;rw[h]
 |.wt n,.cz l r a b,h=>by
  have h:D.tup [.str "weight",.str n]=.tup [.str "rod",.int l,.int r,enc a,enc b]:=h;simp at h
 |.cz l r a b,.wt n,h=>by
  have h:D.tup [.str "rod",.int l,.int r,enc a,enc b]=.tup [.str "weight",.str n]:=h;simp at h
 |.cz l r a b,.cz c r' d e,h=>by
  have h:D.tup [.str "rod",.int l,.int r,enc a,enc b]=.tup [.str "rod",.int c,.int r',enc d,enc e]:=h;simp at h;obtain⟨h1,h2,f,g⟩:=h;rw[h1,h2,tu f,tu g]
theorem Ay:∀{ms a:D2},ms.map enc=a.map enc->ms=a
 |[],[],_=>rfl
 |[],_::_,h=>by cases h
 |_::_,[],h=>by cases h
 |m::ms,b::a,h=>by
  rw[cJ,cJ,List.cons.injEq] at h;rw[tu h.1,Ay h.2]
theorem TabsAt.snoc{A:Ar}{q:Nat}{T:Tb}(a:TabAt A q T):∀{qs:B2} {Ts:Bz},TabsAt A qs Ts->TabsAt A (qs++[q]) (Ts++[T])
 |[],[],_=>⟨a,trivial⟩
 |_::qs,_::Ts,h=>⟨h.1,TabsAt.snoc a h.2⟩
 |[],_::_,h=>h.elim
 |_::_,[],h=>h.elim
theorem Pq(T:TopD K mg "name_shares" JY xR)(b:mg "dict"=none)(a:av P w K mg base 10 "shares" uz (au mg 1 zL)):av P w K mg base 11 "name_shares" xR (au mg 1 DR):=by
 refine bW T WH λj r k s nd=>⟨_,(aD (aP (ie (qv rfl) qz b r9 (aa (fk (some 3) (own:=[κv,κl,κC]) (aw:=[]) (ix:=[]) rfl (cj (dL a j k (aa (vr 0) af))) (λc=>(mq rfl (gj (pG 0 (η:([κv,κl,κC]:Ap).Nodup)) (gj (pG 1 (η:([κv,κl,κC]:Ap).Nodup)) (gj (pG 2 (η:([κv,κl,κC]:Ap).Nodup)) mu))))) (λc=>(cE (aa (vr 1) (aa (vr 2) af))))) af)))),λds A R h hl=>?_⟩;obtain⟨m,rfl,g,q⟩:=h;have hd:=g.deep;have hz:(1000:Nat)<=sizeLine:=δ
 refine⟨rfl,m,rfl,g.wf,hd,λt u i h1 l1=>?_⟩;refine dJ h1 ?_;have ln:=pM m "" 1;have nl:=pq hd;refine gb (f:=λd=>match d with|.tup [_,n,x]=>.tup [n,x]|d=>d) h1 _ _ (λd hd=>?_) (by simp;omega) ?_
 .obtain⟨p,v,rfl⟩:=aS.mp hd
  exact⟨[.str p.1,.str p.2.1,fq p.2.2],rfl,λQ l=>⟨(δ:2<=sizeLine),l⟩⟩
 have e:((b6 m "" 1).map ym).map (λd=>match d with|.tup [_,n,x]=>D.tup [n,x]|d=>d)=(b6 m "" 1).map nA:=by
  rw[bH];rfl
 rw[d_,e];refine Aj aI (BP _) (by simp;omega) ?_;refine q _ _ ((i.trans Gr.push).trans Gr.push) ?_ (by have:=i.len;simp;omega);have o:bB (aM m)=nD (((b6 m "" 1).map λp=>(p.2.1,fq p.2.2)).map λp=>((Sum.inr p.1:Key),p.2)):=Bm _ [];rw[o];exact aI
theorem OS(T:TopD K mg "check_hall" Jz xD)(b:mg "isinstance"=none)(o:mg "tuple"=none)(q:mg "len"=none){t:Tok}(a:mg "MOST_MOBILES"=some (.int 6 t)){c:Addr}(d:mg "NoHall"=some (.ref c))(i:excIn K c nF "ValueError.__new__"=true)
  (j:av P w K mg base 8 "is_mobile" ur (au mg 1 zE))(u:av P w K mg base 11 "bar" xB (au mg 1 Dv)):av P w K mg base 12 "check_hall" xD (au mg 1 DA):=by
 refine jf T Kn rfl δ λN RE f cdv B outer s H E L X Y ds A R h hl=>?_;have hu:=L.units;have nd:=Kn.nd;refine⟨_,(aE (bY (PW.pt (gM (eV (eW (jw kit_tuple b o nU (vr 0)))) (iD (eV (K3 aj (dz gI a3 q gS (aa (vr 0) af)) (qB a)))))) (aD (qE X rfl d i (aa bR af))) b_)
  (aD (d8 dM rfl (cj (vr 0)) (dG 1 nd) (aD (bY (PW.pt (gM (eV (eW (dL j L Y (aa (vr 1) af)))) (iD (Cz (dL u L Y (aa (vr 1) af)) jX)))) (aD (qE X rfl d i (aa bR af))) b_))))),?_⟩
 obtain⟨x,rfl,G,q1,q2⟩:=h;have hz:(1000:Nat)<=sizeLine:=δ
 have no:(¬∃ms,gq x ms)->∀A',Gr A A'->1<=sizeLine/\RE "NoHall" A':=λh A' g=>⟨ω,q2 h A' g⟩;have k:(∀xs,x≠ .tup xs)->¬∃ms,gq x ms:=λh ⟨ms,e,_⟩=>h _ e;cases x with
 |tup xs=>
  have G:xs.all uc=true:=G;refine cD (λz=>?_) (λz=>?_);rotate_left
  .have z:¬(1:Int)<=((xs.length:Nat):Int):=z
   exact no (λ⟨ms,e,h1,_,_⟩=>by
    have e:=D.tup.inj e;rw[e,aQ] at z;omega) _ Gr.refl
  refine cN (λC=>?_) (λC=>?_)
  .have C:¬((xs.length:Nat):Int)<=6:=C
   exact no (λ⟨ms,e,_,h2,_⟩=>by
    have e:=D.tup.inj e;rw[e,aQ] at C;omega) _ Gr.refl
  have z:(1:Int)<=((xs.length:Nat):Int):=z;have C:((xs.length:Nat):Int)<=6:=C;refine eF (λrest τ A'=>∃(F:D2) (n:Bi) (y:Option D),rest=n/\F.map enc++n=xs/\(∀m∈F,Hl m)/\τ=[some (.tup xs),y]/\Gr A A') ?_ ?_ ?_ _ _ _ ⟨[],xs,none,rfl,rfl,(λ_ h=>by cases h),rfl,Gr.refl⟩
  .intro _ _ _ _
   trivial
  .rintro v rest τ A1 ⟨F,n,y,rfl,l,O,rfl,g⟩ Nx hN
   have Q:v∈xs:=by rw[<-l];simp
   have bad:(¬∃m,v=enc m/\Hl m)->¬∃ms,gq (.tup xs) ms:=λJ ⟨ms,e,_,_,h4⟩=>by
    have e:=D.tup.inj e;rw[e] at Q;obtain⟨m,hm,rfl⟩:=aS.mp Q;exact J ⟨m,rfl,h4 m hm⟩
   rcases xg.mp (gp.mp G v Q) with⟨m,rfl,S,U⟩|rfl|⟨s,rfl⟩;rotate_left
   .exact⟨rfl,.inr ⟨.inl rfl,no (bad λ⟨m,e,_⟩=>by cases m<;>cases e) _ g⟩⟩
   .exact⟨rfl,.inr ⟨.inr ⟨s,rfl⟩,no (bad λ⟨m,e,_⟩=>by cases m<;>cases e) _ g⟩⟩
   .refine⟨rfl,.inl ⟨_,⟨m,rfl,S,U,rfl⟩,λA2 Z=>?_⟩⟩
    refine⟨rfl,m,rfl,S,U,λA3 g3=>?_⟩;cases J:fC [] (b6 m "" 1) with
    |some p=>
     refine no (bad λ⟨m',e,h⟩=>?_) _ ((g.trans Z).trans g3);rw[<-tu e] at h;have I:=h.bar;rw[J] at I;cases I
    |none=>
     exact hN _ _ ⟨F++[m],rest,_,rfl,by simpa using l,λm' V=>by
      rcases cu.mp V with h|h
      .exact O m' h
      .rw[bS.mp h]
       exact⟨S,U,J⟩,rfl,(g.trans Z).trans g3⟩
  .rintro τ A1 ⟨F,n,y,e,l,O,rfl,g⟩
   subst e;rw[ko] at l;refine q1 ⟨F,by rw[l],?_,?_,O⟩ _ g
   .rw[<-l,aQ] at z
    omega
   .rw[<-l,aQ] at C
    omega
 |ref r=>
  obtain⟨xs,e⟩:=HV G;have W:kZ A (.ref r)=some "list":=by unfold kZ;simp only[e]
  conv=>whnf
  rw[W];exact no (k λxs h=>by cases h) _ Gr.refl
 |aG=>exact no (k λxs h=>by cases h) _ Gr.refl
 |str s=>exact no (k λxs h=>by cases h) _ Gr.refl
 |_=>cases G
theorem O2(T:TopD K mg "hall_shares" JJ pI)(d:av P w K mg base 12 "check_hall" xD (au mg 1 DA))(b:av P w K mg base 11 "name_shares" xR (au mg 1 DR)):av P w K mg base 13 "hall_shares" pI (au mg 1 sH):=by
 refine bW T Wo λp F t G nd=>⟨_,(aE (fm (dL d p t (aa (vr 0) af)))
  (aD (aP (fk none (own:=[κe]) (aw:=[]) (ix:=[]) rfl (cj (vr 0)) (λc=>(pG 0 (η:([κe]:Ap).Nodup))) (λc=>(dL b p mj (aa (vr 0) af))))))),λds A R h hl=>?_⟩
 obtain⟨x,rfl,u,q,o⟩:=h;have hz:(1000:Nat)<=sizeLine:=δ
 refine⟨rfl,x,rfl,u,λ⟨ms,r⟩ s l=>?_,λv s l=>o v _ l⟩;have z:=q ms r;clear q;obtain⟨rfl,h1,H,B⟩:=r;refine Ez (λrest ys A'=>∃(j a:D2) (i:B2),rest=a.map enc/\j++a=ms/\ys=i.map D.ref/\TabsAt A' i (j.map aM)/\Gr s A') ?_ ?_ ?_ ?_ _ _ _ ⟨[],ms,[],rfl,rfl,rfl,trivial,Gr.refl⟩
 .intro _ _ _ _
  trivial
 .rintro rest ys A' ⟨j,a,i,_,e,rfl,k,_⟩
  have l1:=k.len;have l2:=cB List.length e;rw[dZ] at l2;rw[aQ] at l1 ⊢;omega
 .rintro y rest ys A' ⟨j,a,i,e,f,rfl,k,g⟩
  cases a with
  |nil=>cases e
  |cons m a=>
   cases e;refine⟨[enc m],rfl,λQ E=>⟨rfl,m,rfl,B m (by rw[<-f];simp),λI o n h2 l2=>E _ _ ⟨j++[m],a,i++[o],rfl,by simpa using f,θ,?_,g.trans n⟩⟩⟩;rw[di];exact TabsAt.snoc (.inl h2) (k.gr n)
 .rintro ys A' ⟨j,a,i,e,f,rfl,k,g⟩
  cases a with
  |cons _ _=>cases e
  |nil=>
   have f:j=ms:=by simpa using f
   subst f;have n:=(l.trans g).trans (Gr.push (T:=[C.lst (i.map D.ref)]));exact z _ _ n ⟨i,aI,k.gr Gr.push⟩ (l.trans g).len
def DV:Ct:=λds A R E=>∃x NN,ds=[x]/\iV A x=true/\(∀ms,gq x ms->d7 (ms.map aM) NN/\(ff (ms.map aM)=none->∀A',Gr A A'->R .aG A')/\∀ss,ff (ms.map aM)=some ss->∀A' q,Gr A A'->A'[q]?=some (.lst (ss.map bE))->A.length<=q->R (.ref q) A')/\((¬∃ms,gq x ms)->∀A',Gr A A'->E "NoHall" A')
theorem PD(T:TopD K mg "ring" J9 xV)(a:av P w K mg base 13 "hall_shares" pI (au mg 1 sH))(b:av P w K mg base 5 "find_ring" um (au mg 1 zK)):av P w K mg base 14 "ring" xV (au mg 1 DV):=by
 refine bW T WN λf u g v nd=>⟨_,(aD (aP (dL b f g (aa (dL a f g (aa (vr 0) af)) af)))),λds A R h hl=>?_⟩;obtain⟨x,NN,rfl,i,j,k⟩:=h;refine⟨rfl,x,rfl,i,λms l m n c o l1=>?_,λq m c=>k q _ c⟩;obtain⟨ar,r,s⟩:=j ms l;exact⟨rfl,n,_,NN,rfl,o,ar,λe t d=>r e _ (c.trans d),λss e t p d h2 l2=>s ss e _ _ (c.trans d) h2 (by have:=c.len;omega)⟩
def lN(Ts:Bz)(a b:Str):Prop:=∃T∈Ts,a∈ai T/\b∈ai T
inductive gH(Ts:Bz):Str->Str->Prop
 |refl (a:Str):gH Ts a a
 |step {a b c:Str}:gH Ts a b->lN Ts b c->gH Ts a c
theorem lN.symm{Ts:Bz}{a b:Str}(h:lN Ts a b):lN Ts b a:=by
 obtain⟨T,h1,h2,c⟩:=h;exact⟨T,h1,c,h2⟩
theorem gH.trans{Ts:Bz}{a b c:Str}(h:gH Ts a b)(k:gH Ts b c):gH Ts a c:=by
 induction k with
 |refl=>exact h
 |step _ e d=>exact .step d e
theorem gH.symm{Ts:Bz}{a b:Str}(h:gH Ts a b):gH Ts b a:=by
 induction h with
 |refl=>exact .refl _
 |step _ e c=>exact(gH.step (.refl _) e.symm).trans c
theorem Mi{Ts:Bz}{a b:Str}:lN Ts a b↔∃s∈eL Ts a,s.2.2=b:=by
 constructor
 .rintro ⟨T,c,h1,h2⟩
  obtain⟨i,hi,e⟩:=jm c;exact⟨(i,a,b),o9.mpr ⟨T,by rw[a_ hi,e],h1,rfl,h2⟩,rfl⟩
 .rintro ⟨s,d,rfl⟩
  obtain⟨T,h1,h2,g,f⟩:=o9.mp d;exact⟨T,cS h1,h2,f⟩
inductive ee(Ts:Bz):Str->List bg->Str->Prop
 |nil (a:Str):ee Ts a [] a
 |snoc {a b:Str} {l:List bg} {s:bg}:ee Ts a l s.2.1->cU Ts s->s.2.2=b->ee Ts a (l++[s]) b
theorem ee.pK{Ts:Bz}{a b:Str}{l:List bg}(h:ee Ts a l b):gH Ts a b:=by
 induction h with
 |nil=>exact .refl _
 |snoc _ c e d=>
  obtain⟨T,h1,h2,f⟩:=c;exact .step d ⟨T,cS h1,h2,by rw[<-e];exact f⟩
theorem Ga{Ts:Bz}{a:Str}:∀(ss:List bg) (P:bf),(∀s∈ss,cU Ts s/\s.2.1∈aH P)->(∀p∈P,ee Ts a p.2 p.1)->∀p∈ss.foldl cM P,ee Ts a p.2 p.1
 |[],P,_,h=>h
 |s::ss,P,b,h=>by
  obtain⟨d,e⟩:=b s (bA ..);refine Ga ss (cM P s) (λx c=>⟨(b x (bz _ c)).1,(sN P s _).mpr (.inl (b x (bz _ c)).2)⟩) λp hp=>?_;unfold cM at hp;split at hp
  .exact h p hp
  .rcases cu.mp hp with hp|hp
   .exact h p hp
   .rw[bS.mp hp]
    exact .snoc (h _ (ji e)) d rfl
theorem Xf{Ts:Bz}{n:Str}{s:bg}(h:s∈eL Ts n):cU Ts s/\s.2.1=n:=by
 obtain⟨T,h1,h2,a,b⟩:=o9.mp h;exact⟨⟨T,h1,by rw[a];exact h2,b⟩,a⟩
theorem Eb{Ts:Bz}{a:Str}:∀(f i:Nat) (P:bf),(∀p∈P,ee Ts a p.2 p.1)->∀p∈eE Ts f i P,ee Ts a p.2 p.1
 |0,i,P,h=>h
 |f+1,i,P,h=>by
  cases e:P[i]? with
  |none=>
   have:eE Ts (f+1) i P=P:=by
    show(match P[i]? with|some p=>eE Ts f (i+1) ((eL Ts p.1).foldl cM P)|none=>P)=_;rw[e]
   rw[this];exact h
  |some c=>
   rw[sR e];refine Eb f (i+1) _ (Ga _ _ (λs b=>?_) h);obtain⟨h1,h2⟩:=Xf b;exact⟨h1,by rw[h2];exact dN (cS e)⟩
theorem Ec{Ts:Bz}{NN:Ap}(ar:d7 Ts NN):∀(f i:Nat) (P:bf),gu P NN->13<=f+i->(∀j,j<i->∀p,P[j]?=some p->∀b,lN Ts p.1 b->b∈aH P)->∀p∈eE Ts f i P,∀b,lN Ts p.1 b->b∈aH (eE Ts f i P)
 |0,i,P,l,r,hc=>λp a b c=>by
  have hl:=dF l.len ar.nn;obtain⟨j,g,e⟩:=jm (show p∈P from a);exact hc j ω p (by rw[a_ g,e]) b c
 |f+1,i,P,l,r,hc=>by
  cases e:P[i]? with
  |none=>
   have t:eE Ts (f+1) i P=P:=by
    show(match P[i]? with|some p=>eE Ts f (i+1) ((eL Ts p.1).foldl cM P)|none=>P)=_;rw[e]
   rw[t];intro p a b c;obtain⟨j,g,m⟩:=jm a;have:P.length<=i:=List.getElem?_eq_none_iff.mp e;exact hc j ω p (by rw[a_ g,m]) b c
  |some d=>
   rw[sR e];obtain⟨X,eX⟩:=wc (eL Ts d.1) P;have n:d.1∈aH P:=dN (cS e);have o:=(bP.mp e).1;have key:∀(ss:List bg) (Q:bf),(∀s∈ss,s∈eL Ts d.1)->gu Q NN->d.1∈aH Q->gu (ss.foldl cM Q) NN:=by
    intro ss;induction ss with
    |nil=>intro Q _ h _;exact h
    |cons s ss u=>
     intro Q k v a;obtain⟨T,w,_,m,y⟩:=o9.mp (k s (bA ..));exact u _ (λx z=>k x (bz _ z)) (v.add (by rw[m];exact a) (ar.sub T (cS w) _ y)) ((sN Q s d.1).mpr (.inl a))
   refine Ec ar f (i+1) _ (key _ _ (λs h=>h) l n) ω λj g p a b c=>?_;rw[AG];by_cases q:j<i
   .rw[eX,gW ω] at a
    exact .inl (hc j q p a b c)
   .have:j=i:=ω
    subst this;rw[eX,gW o,e] at a;cases a;obtain⟨s,k,rfl⟩:=Mi.mp c;exact .inr (dN k)
theorem q_{Ts:Bz}{n:Str}:∀p∈aY Ts n,ee Ts n p.2 p.1:=Eb 14 0 _ λp a=>by
 have:p=(n,[]):=by simpa using a
 rw[this];exact .nil _
theorem nC{Ts:Bz}{NN:Ap}(ar:d7 Ts NN){n:Str}(c:n∈NN){m:Str}:m∈aH (aY Ts n)↔gH Ts n m:=by
 constructor
 .intro h
  obtain⟨p,a,rfl⟩:=aS.mp h;exact(q_ p a).pK
 .intro h
  have h0:gu [(n,[])] NN:=⟨by simp[aH],λm d=>by
   have:m=n:=by simpa[aH] using d
   rw[this];exact c,λp a=>by
   have:p=(n,[]):=by simpa using a
   rw[this];simp⟩
  have b:=Ec ar 14 0 [(n,[])] h0 ω λj g=>by omega
  induction h with
  |refl=>exact(j6 ar c).2.1
  |step _ e f=>
   obtain⟨p,a,rfl⟩:=aS.mp f;exact b p a _ e
theorem Gx{Ts:Bz}{NN:Ap}(ar:d7 Ts NN):∀(ns:Ap) (Gs:List bf),(∀n∈ns,n∈NN)->(∀P∈Gs,∃n∈NN,P=aY Ts n)->Gs.Pairwise (λP Q=>∀m,m∈aH P->m∉aH Q)->(ns.foldl (dj Ts) Gs).Pairwise (λP Q=>∀m,m∈aH P->m∉aH Q)
 |[],Gs,_,_,h=>h
 |n::ns,Gs,f,e,h=>by
  have b:=f n (bA ..);refine Gx ar ns (dj Ts Gs n) (λm d=>f m (bz _ d)) (λP hP=>?_) ?_
  .unfold dj at hP
   split at hP
   .exact e P hP
   .rcases cu.mp hP with hP|hP
    .exact e P hP
    .exact⟨n,b,bS.mp hP⟩
  .unfold dj
   split
   .exact h
   .rename_i c
    rw[List.pairwise_append];refine⟨h,θ,λP hP Q g m d a=>?_⟩;rw[bS.mp g] at a;obtain⟨k,i,rfl⟩:=e P hP;refine c (fX.mpr ⟨_,hP,?_⟩);rw[nC ar i] at d ⊢;rw[nC ar b] at a;exact d.trans a.symm
theorem tK{Ts:Bz}{NN:Ap}(ar:d7 Ts NN):(bO Ts).Pairwise (λP Q=>∀m,m∈aH P->m∉aH Q):=
 Gx ar _ [] (λm a=>by
  obtain⟨T,h1,h2⟩:=fX.mp a;exact ar.sub T h1 m h2) (λP h=>by cases h) Pairwise.nil
theorem Bt{n:Str}:∀(Gs:List bf) (acc:List bg) (P:bf),Gs.Pairwise (λP Q=>∀m,m∈aH P->m∉aH Q)->P∈Gs->n∈aH P->Gs.foldl (λacc P=>if n∈aH P then c9 P n else acc) acc=c9 P n
 |[],acc,P,_,h,_=>by cases h
 |Q::Gs,acc,P,hd,hP,a=>by
  obtain⟨h1,h2⟩:=i8.mp hd;rw[gF];rcases bx.mp hP with rfl|hP
  .rw[aC a]
   have:∀(Gs:List bf) (acc:List bg),(∀Q∈Gs,n∉aH Q)->Gs.foldl (λacc P=>if n∈aH P then c9 P n else acc) acc=acc:=by
    intro Gs;induction Gs with
    |nil=>intro acc _;rfl
    |cons Q Gs c=>
     intro acc h;rw[gF,ay (h Q (bA ..))];exact c acc λd b=>h d (bz _ b)
   exact this Gs _ λQ e=>h1 Q e n a
  .exact Bt Gs _ P h2 hP a
structure Cs(Ts:Bz)(w:Str->Rat):Prop where
 pos:∀n,0<w n
 eq:∀T∈Ts,∀a∈ai T,∀b∈ai T,w a*aB T b=w b*aB T a
theorem iU{x:Rat}(h:0<x):x≠0:=λe=>by rw[e] at h;exact absurd h δ
theorem KN{Ts:Bz}{w:Str->Rat}(b:∀T∈Ts,h_ T)(h:Cs Ts w){s:bg}(c:cU Ts s):b8 Ts s*w s.2.1=w s.2.2:=by
 obtain⟨T,h1,h2,d⟩:=c;have a:=cS h1;have e:=h.eq T a _ h2 _ d;have f:=iU (mC (b T a) h2).pos;unfold b8;rw[iZ h1,iZ h1];grind
theorem EB(Ts:Bz)(a:List bg):∀b:List bg,cO Ts (a++b)=cO Ts a*cO Ts b:=by
 have key:∀(b:List bg) (x:Rat),b.foldl (λx s=>x*b8 Ts s) x=x*b.foldl (λx s=>x*b8 Ts s) 1:=by
  intro b;induction b with
  |nil=>intro x;simp[Rat.mul_one]
  |cons s b c=>
   intro x;rw[gF,gF,c (x*b8 Ts s),c (1*b8 Ts s),r8,Rat.mul_assoc]
 intro b;unfold cO;rw[nX,key]
theorem vJ{Ts:Bz}{w:Str->Rat}(c:∀T∈Ts,h_ T)(h:Cs Ts w){a b:Str}{l:List bg}(hc:ee Ts a l b):cO Ts l*w a=w b:=by
 induction hc with
 |nil=>exact r8 _
 |snoc hc d e f=>
  rw[qx,<-e,<-KN c h d,<-f];grind
theorem ED{Ts:Bz}(a:∀T∈Ts,h_ T):∀(l:List bg),(∀s∈l,cU Ts s)->cO Ts (bwd l)*cO Ts l=1
 |[],_=>by show(1:Rat)*1=1;exact r8 _
 |s::l,b=>by
  have h:=ED a l λx d=>b x (bz _ d);have e:bwd (s::l)=bwd l++[(s.1,s.2.2,s.2.1)]:=by
   unfold bwd;simp
  have f:cO Ts (s::l)=b8 Ts s*cO Ts l:=by
   rw[show s::l=[s]++l from rfl,EB];congr 1;show(1:Rat)*b8 Ts s=b8 Ts s;exact r8 _
  obtain⟨T,h1,h2,g⟩:=b s (bA ..);have c:=a T (cS h1);have p2:=iU (mC c h2).pos;have i:=iU (mC c g).pos;have j:b8 Ts (s.1,s.2.2,s.2.1)*b8 Ts s=1:=by
   unfold b8;simp only[iZ h1];grind
  rw[e,qx,f];grind
theorem BJ{Ts:Bz}{NN:Ap}(ar:d7 Ts NN)(h:ff Ts=none):∃w,Cs Ts w:=by
 have pos:∀n,0<cO Ts (gi (bO Ts) n):=λn=>(vK ar.tok (qS ar (bO Ts) n λP h=>h).1).1;refine⟨λn=>cO Ts (gi (bO Ts) n),pos,λT g a j b k=>?_⟩;obtain⟨i,hi,e⟩:=jm g;have c:Ts[i]?=some T:=by rw[a_ hi,e]
 have d:=(wZ (ar.tok T g).ne).1;have key:∀o∈ai T,cO Ts (gi (bO Ts) o)*aB T (jC T)=cO Ts (gi (bO Ts) (jC T))*aB T o:=λo l=>by
  have m:(i,jC T,o)∈jW Ts:=by
   unfold jW;exact fX.mpr ⟨(T,i),rP.mpr c,aS.mpr ⟨o,l,rfl⟩⟩
  unfold ff at h;rw[qc] at h;have f:=h _ (dN m);simp at f;unfold iX at f;rw[EB,qx] at f;have q:=ED ar.tok (gi (bO Ts) o) (qS ar (bO Ts) o λP h=>h).1;have p:=iU (mC (ar.tok T g) d).pos;have es:b8 Ts (i,jC T,o)=aB T o/aB T (jC T):=by
   unfold b8;simp only[iZ c]
  rw[es] at f;simp only at f;grind
 have r:=key a j;have s:=key b k;have p:=iU (mC (ar.tok T g) d).pos;grind
theorem Ql:∀{Gs:List bf} {NN:Ap},(∀P∈Gs,∃n∈aH P,n∈NN)->Gs.Pairwise (λP Q=>∀m,m∈aH P->m∉aH Q)->Gs.length<=NN.length:=by
 intro Gs NN h hd;have:∃a:Ap,a.length=Gs.length/\a.Nodup/\(∀x∈a,x∈NN)/\∀x∈a,∃P∈Gs,x∈aH P:=by
  induction Gs with
  |nil=>exact⟨[],rfl,nodup_nil,(λ_ h=>by cases h),(λ_ h=>by cases h)⟩
  |cons P Gs e=>
   obtain⟨f,g⟩:=i8.mp hd;obtain⟨a,k1,k2,k3,d⟩:=e (λQ b=>h Q (bz _ b)) g;obtain⟨n,n1,n2⟩:=h P (bA ..);refine⟨n::a,by simp[k1],lD.mpr ⟨λi=>?_,k2⟩,λx hx=>?_,λx hx=>?_⟩
   .obtain⟨Q,b,c⟩:=d n i
    exact f Q b n n1 c
   .rcases bx.mp hx with rfl|hx
    .exact n2
    .exact k3 x hx
   .rcases bx.mp hx with rfl|hx
    .exact⟨P,bA ..,n1⟩
    .obtain⟨Q,b,c⟩:=d x hx
     exact⟨Q,bz _ b,c⟩
 obtain⟨a,k1,k2,k3,_⟩:=this;have:=j5 a NN k2 k3;omega
theorem X7{A B:Ar}{q:Nat}{c d:C}(h:A[q]?=some d)(g:Gr (A.set q c) B):Gr A (B.set q d):=by
 obtain⟨T,rfl⟩:=g;refine⟨T,?_⟩;have a:=dB h;rw[yQ _ _ (by simpa using a),set_set];congr 1;refine sf λi=>?_;by_cases hi:i=q
 .rw[hi,fy a,h]
 .rw[fH (Ne.symm hi)]
noncomputable def dY(Ts:Bz)(P:bf)(n:Str):Rat:=cO Ts (c9 P n)
def zD:Ct:=λds A R _=>∃r q Ts NN n A0,ds=[.ref r,.ref q]/\iM A0 r Ts/\Gr A0 A/\d7 Ts NN/\n∈NN/\g_ A0.length A q (aY Ts n)/\∀A' p kvs,Gr A A'->A'[p]?=some (.dct kvs)->A.length<=p->Fb kvs (aH (aY Ts n)) (dY Ts (aY Ts n))->R (.ref p) A'
theorem O0(T:TopD K mg "group_weights" JH uq)(f:mg "dict"=none)(b:av P w K mg base 4 "comes_to" qZ (au mg 2 vA)):av P w K mg base 5 "group_weights" uq (au mg 2 zD):=by
 refine bW T Wn λO hR hx S nd=>⟨_,(aD (aP (ie (qv rfl) qz f r9 (aa (Al (fk none (own:=[κl]) (aw:=[κb,κr]) (ix:=[0,1]) rfl (vU (vr 1)) (λc=>(pG 0 (η:([κl,κb,κr]:Ap).Nodup))) (λc=>(cE (aa (vr 0) (aa (dL b O mj (aa (vr 1) (aa (dX S (vr 2) (vr 0)) af))) af)))))) af)))),λds A R h hl=>?_⟩;obtain⟨r,q,Ts,NN,n,U,rfl,V,W,ar,X,Y,k⟩:=h;obtain⟨Z,kvs,hd,hk,hv⟩:=Y;have hz:(1000:Nat)<=sizeLine:=δ
 obtain⟨i,_,_⟩:=j6 ar X;have pl:=i.len;have S0:=ar.nn;have t:(aH (aY Ts n)).length=(aY Ts n).length:=by simp[aH]
 have y:=dB hd;refine .inl ⟨q,kvs,hd,λo=>?_⟩;generalize e:A.set q (.bV o kvs)=u;have j:u[q]?=some (.bV o kvs):=by rw[<-e];exact fy y
 have B:Gr U u:=by rw[<-e];exact W.set Z
 have E:=V.gr B;refine Bg j ?_;have ek:(kvs.map λp=>keyOf p.1)=(aH (aY Ts n)).map D.str:=by
  have:(kvs.map λp=>keyOf p.1)=(kvs.map (·.1)).map keyOf:=by rw[bH];rfl
  rw[this,hk,bH];rfl
 rw[ek];refine oB (λd=>match d with|.str m=>kT (dY Ts (aY Ts n)) m|d=>d) _ [] u (λA' g=>g.get j) (λd F l s=>?_) (by simp[t];omega) (λl s=>?_)
 .obtain⟨m,x,rfl⟩:=aS.mp F
  obtain⟨a,la,ga,G⟩:=hv m x;have aq:a≠q:=λz=>by rw[z,hd] at G;cases G
  have H:u[a]?=some (.lst ((c9 (aY Ts n) m).map bE)):=by
   rw[<-e,fH (Ne.symm aq)];exact G
  refine⟨[.str m],rfl,λQ hQ=>?_⟩;refine G1 (s.get j) rfl ga ?_;have pm:=ji x;have I:=i.pl _ pm;refine⟨rfl,r,a,Ts,_,rfl,E.gr s,ar.tok,s.get H,λst J=>yb _ pm st J,by simp at I;omega,λA3 g3=>⟨(ω:2<=sizeLine),hQ _ g3⟩⟩
 have em:((aH (aY Ts n)).map D.str).map (λd=>match d with|.str m=>kT (dY Ts (aY Ts n)) m|d=>d)=(aH (aY Ts n)).map (kT (dY Ts (aY Ts n))):=by
  rw[bH];rfl
 rw[d_,em];have v:Gr u (l++[C.lst ((aH (aY Ts n)).map (kT (dY Ts (aY Ts n))))]):=s.trans Gr.push;have l2:A.length<=l.length:=by
  have:=s.len;rw[<-e,List.length_set] at this;exact this
 refine⟨kvs,v.get j,?_⟩;have M:Gr A ((l++[C.lst ((aH (aY Ts n)).map (kT (dY Ts (aY Ts n))))]).set q (.dct kvs)):=X7 hd (by rw[e];exact v);have hL:((l++[C.lst ((aH (aY Ts n)).map (kT (dY Ts (aY Ts n))))]).set q (.dct kvs))[l.length]?=some (.lst ((aH (aY Ts n)).map (kT (dY Ts (aY Ts n))))):=by
  rw[fH ω];exact aI
 generalize ((l++[C.lst ((aH (aY Ts n)).map (kT (dY Ts (aY Ts n))))]).set q (.dct kvs):Ar)=A3 at*
 refine Aj hL (H_ _ _) (by simp[t];omega) ?_;have N:(((aH (aY Ts n)).map λm=>((Sum.inr m:Key),fq (dY Ts (aY Ts n) m))).map (·.1))=(aH (aY Ts n)).map Sum.inr:=by
  rw[bH];rfl
 have L:=HF i.nd;have ep:nD ((aH (aY Ts n)).map λm=>((Sum.inr m:Key),fq (dY Ts (aY Ts n) m)))=(aH (aY Ts n)).map λm=>((Sum.inr m:Key),fq (dY Ts (aY Ts n) m)):=by
  have:=Iw ((aH (aY Ts n)).map λm=>((Sum.inr m:Key),fq (dY Ts (aY Ts n) m))) [] (by rw[d_,N];exact L);simpa[nD] using this
 rw[ep];exact k _ _ _ (M.trans Gr.push) aI M.len ⟨N,i.nd,λm x=>Gv (λm=>fq (dY Ts (aY Ts n) m)) _ m x⟩
theorem KU(a:Str):¬strLt a a:=λh=>lJ _ (show a.cps.toList<a.cps.toList from h)
theorem Xh{a b:Str}(h:strLt a b):¬strLt b a:=λk=>lJ _ (vc (show a.cps.toList<b.cps.toList from h) (show b.cps.toList<a.cps.toList from k))
theorem Le{α:Type}{r:α->α->Prop}(as:∀a b,r a b->¬r b a):∀{xs ys:List α},xs.Pairwise r->ys.Pairwise r->(∀x,x∈xs↔x∈ys)->xs=ys
 |[],[],_,_,_=>rfl
 |[],y::ys,_,_,h=>by have:=(h y).mpr (bA ..);cases this
 |x::xs,[],_,_,h=>by have:=(h x).mp (bA ..);cases this
 |x::xs,y::ys,g,i,h=>by
  obtain⟨d,j⟩:=i8.mp g;obtain⟨f,l⟩:=i8.mp i;have e:x=y:=by
   rcases bx.mp ((h x).mp (bA ..)) with e|m1
   .exact e
   rcases bx.mp ((h y).mpr (bA ..)) with e|m2
   .exact e.symm
   exact absurd (d y m2) (as _ _ (f x m1))
  subst e;have c:∀z,¬r z z:=λz k=>as _ _ k k;rw[Le as j l λz=>⟨λhz=>?_,λhz=>?_⟩]
  .rcases bx.mp ((h z).mp (bz _ hz)) with rfl|k
   .exact absurd (d _ hz) (c _)
   .exact k
  .rcases bx.mp ((h z).mpr (bz _ hz)) with rfl|k
   .exact absurd (f _ hz) (c _)
   .exact k
noncomputable def jH(ns:Ap):Ap:=open Classical in if h:∃ys:Ap,ys.Pairwise strLt/\∀x,x∈ys↔x∈ns then Classical.choose h else []
theorem yE{ns ys:Ap}(h1:ys.Pairwise strLt)(h2:∀x,x∈ys↔x∈ns):jH ns=ys:=by
 have h:∃ys:Ap,ys.Pairwise strLt/\∀x,x∈ys↔x∈ns:=⟨ys,h1,h2⟩;have e:jH ns=Classical.choose h:=by unfold jH;rw[dif_pos h]
 obtain⟨k1,k2⟩:=Classical.choose_spec h;rw[e];exact Le (λ_ _=>Xh) k1 h1 λx=>by rw[k2,h2]
noncomputable def iL(Ts:Bz)(P:bf):List (Str×Int):=(jH (aH P)).zip (lw ((jH (aH P)).map (dY Ts P)))
noncomputable def kY(Ts:Bz):List (Str×Int):=(bO Ts).flatMap (iL Ts)
def D4:Ct:=λds A R E=>∃x NN,ds=[x]/\iV A x=true/\(∀n∈NN,Nm n)/\(∀ms,gq x ms->d7 (ms.map aM) NN/\(ff (ms.map aM)=none->(∀P∈bO (ms.map aM),∀n∈aH P,ql (dY (ms.map aM) P n))/\∀A' rs,Gr A A'->rs.Perm (kY (ms.map aM))->(rs.map (·.1)).Pairwise strLt->R (iQ rs) A')/\(ff (ms.map aM)≠none->∀A',Gr A A'->E "Never" A'))/\((¬∃ms,gq x ms)->∀A',Gr A A'->E "NoHall" A')
abbrev yl:KeyOrd:=rj gP (rj wF uU)
def uI:D->yl.α
 |.tup [.str n,.int a]=>(n.cps.toList,a,())
 |_=>([],(0:Int),())
theorem rw_ltU(p q:Str×Int):ltQ (toQ (cX p)) (toQ (cX q))=some (yl.blt (uI (cX p)) (uI (cX q))):=
 Sj (O:=rj wF uU) (Sh (O:=uU) Si)
theorem rw_okU{p:Str×Int}(h:Nm p.1):gO (cX p)=true/\(toQ (cX p)).canLay0=true/\(toQ (cX p)).depth<=60/\∃x r,toQ (cX p)=.tuple (.str x::r):=by
 have h1:=h.ok;refine⟨rfl,?_,?_,_,_,rfl⟩
 .simp[cX,toQ,bG,canLay0,canLayAll0] at h1 ⊢
  exact h1
 .simp[cX,toQ,bG,PyData.depth,depthAll]
theorem D9:∀{ds:Bi},(∀d∈ds,∃p,d=cX p)->∃rs:List (Str×Int),ds=rs.map cX
 |[],_=>⟨[],rfl⟩
 |d::ds,h=>by
  obtain⟨rs,rfl⟩:=D9 (ds:=ds) λx a=>h x (bz _ a);obtain⟨p,rfl⟩:=h d (bA ..);exact⟨p::rs,rfl⟩
theorem UI{rs qs:List (Str×Int)}(h:(rs.map cX).Perm (qs.map cX)):rs.Perm qs:=by
 have inv:∀l:List (Str×Int),(l.map cX).map (λd=>match d with|.tup [.str n,.int a]=>(n,a)|_=>(("":Str),(0:Int)))=l:=λl=>by
  rw[bH];have:((λd=>match d with|D.tup [.str n,.int a]=>(n,a)|_=>(("":Str),(0:Int)))∘cX)=id:=by
   funext p;rfl
  rw[this,List.map_id]
 have:=h.map (λd=>match d with|.tup [.str n,.int a]=>(n,a)|_=>(("":Str),(0:Int)));rw[inv,inv] at this;exact this
theorem K6{Ts:Bz}{P:bf}(h:∃ys:Ap,ys.Pairwise strLt/\∀x,x∈ys↔x∈aH P):(iL Ts P).map (·.1)=jH (aH P)/\(jH (aH P)).Pairwise strLt/\∀x,x∈jH (aH P)↔x∈aH P:=by
 obtain⟨ys,h1,h2⟩:=h;rw[yE h1 h2];refine⟨?_,h1,h2⟩;unfold iL;rw[yE h1 h2];exact List.map_fst_zip (by rw[Hv,aQ];exact aJ _)
theorem Yv(ns:Ap):(jH ns).length<=ns.length:=by
 by_cases h:∃ys:Ap,ys.Pairwise strLt/\∀x,x∈ys↔x∈ns
 .obtain⟨ys,h1,h2⟩:=h
  rw[yE h1 h2];refine j5 ys ns (Pairwise.imp (S:=λa b:Str=>a≠b) (λ {a b} c (z:a=b)=>KU b (by rw[z] at c;exact c)) h1) λx d=>(h2 x).mp d
 .have:jH ns=[]:=by unfold jH;rw[dif_neg h]
  rw[this];exact cA _
theorem K5(Ts:Bz)(P:bf):(iL Ts P).length<=(aH P).length:=by
 have:=Yv (aH P);unfold iL;rw[length_zip];omega
theorem F7{f:bf->List (Str×Int)}{k:Nat}:∀{l:List bf},(∀P∈l,(f P).length<=k)->(l.flatMap f).length<=k*l.length
 |[],_=>by simp
 |P::l,h=>by
  have h1:=F7 (l:=l) λQ a=>h Q (bz _ a);have h2:=h P (bA ..);rw[sq,dZ,iw,Nat.mul_succ];omega
theorem yx{Ts:Bz}:∀{Gs:List bf},Gs.Pairwise (λP Q=>∀m,m∈aH P->m∉aH Q)->(∀P∈Gs,∃ys:Ap,ys.Pairwise strLt/\∀x,x∈ys↔x∈aH P)->((Gs.flatMap (iL Ts)).map (·.1)).Nodup/\∀x,x∈(Gs.flatMap (iL Ts)).map (·.1)↔x∈fu Gs
 |[],_,_=>⟨nodup_nil,λx=>by simp[fu]⟩
 |P::Gs,hd,e=>by
  obtain⟨f,g⟩:=i8.mp hd;obtain⟨i1,i2⟩:=yx (Ts:=Ts) g λQ d=>e Q (bz _ d);obtain⟨n1,n2,n3⟩:=K6 (Ts:=Ts) (e P (bA ..));rw[sq,di,n1];constructor
  .rw[nK]
   refine⟨Pairwise.imp (S:=λa b:Str=>a≠b) (λ {a b} c (z:a=b)=>KU b (by rw[z] at c;exact c)) n2,i1,λa h b i z=>?_⟩;subst z;obtain⟨Q,d,j⟩:=fX.mp (show a∈Gs.flatMap aH from (i2 a).mp i);exact f Q d a ((n3 a).mp h) j
  .intro x
   rw[cu,n3,i2];simp[fu]
theorem VL{rs:List (Str×Int)}(f:(rs.map (·.1)).Nodup)(e:(rs.map cX).Pairwise (λa b=>yl.kle (uI a) (uI b))):(rs.map (·.1)).Pairwise strLt:=by
 rw[pairwise_map] at e;have d:rs.Pairwise λa b=>a.1≠b.1:=pairwise_map.mp f;refine pairwise_map.mpr ((e.and d).imp ?_);rintro a b ⟨k1,k2⟩;have k1:(gP.blt b.1.cps.toList a.1.cps.toList||(!gP.blt a.1.cps.toList b.1.cps.toList&&(rj wF uU).blt (b.2,()) (a.2,())))=false:=k1;rw[Bool.or_eq_false_iff] at k1;have k3:gP.blt a.1.cps.toList b.1.cps.toList=true:=by
  cases c:gP.blt a.1.cps.toList b.1.cps.toList with
  |true=>rfl
  |false=>exact absurd (KW (gP.total _ _ c k1.1)) k2
 exact show a.1.cps.toList<b.1.cps.toList from fY k3
theorem PX(T:TopD K mg "together" Kf ya)(k:mg "sorted"=none)(s:mg "tuple"=none)(g:av P w K mg base 13 "hall_shares" pI (au mg 1 sH))(a:av P w K mg base 6 "check_no_ring" uh (au mg 1 zI))(l:av P w K mg base 3 "groups" q7 (au mg 1 vB))(b:av P w K mg base 3 "least_weights" xO (au mg 1 DN))(c:av P w K mg base 5 "group_weights" uq (au mg 2 zD)):av P w K mg base 14 "together" ya (au mg 1 D4):=by
 refine bW T WT λM hR E hu nd=>⟨_,(aE (dS 1 nd (dL g M E (aa (vr 0) af)))
  (aE (fm (dL a M E (aa (vr 1) af)))
  (aE (dS 2 nd (dI af))
  (aE (d8 dM rfl (cj (dL l M E (aa (vr 1) af))) (dG 3 nd) (aD (fm (gJ gQ pT rS SW Nt (vr 2) (aa (dL b M E (aa (dL c M E (aa (vr 1) (aa (vr 3) af))) af)) af)))))
  (aD (aP (ie Es E4 s nU (aa (dz (Er rfl hu) E3 k boot_sorted (aa (vr 2) af)) af)))))))),λds A R h hl=>?_⟩
 obtain⟨x,NN,rfl,hk,Qy,q1,q2⟩:=h;have hz:(1000:Nat)<=sizeLine:=δ
 refine⟨rfl,x,rfl,hk,λms hH A1 r Z hB l1=>?_,λF A1 Z=>q2 F _ Z⟩;obtain⟨ar,q4,q5⟩:=q1 ms hH;refine⟨rfl,r,_,NN,rfl,hB,ar,λe u g2=>?_,λe u g2=>q5 e _ (Z.trans g2)⟩;obtain⟨hF,q6⟩:=q4 e;have N:=hB.gr g2;clear q1 q2 q4 q5;generalize YX:ms.map aM=Ts at*
 refine⟨cA _,rfl,r,Ts,NN,rfl,N.gr Gr.push,ar,λA3 q3 g3 hG=>?_⟩;obtain⟨lq,gs,O,G⟩:=hG;have tX:=G.len;have H:(u++[C.lst []]).length=u.length+1:=θ
 rw[H] at G lq;have gl:(bO Ts).length<=12:=by
  have:=Ql (Gs:=bO Ts) (NN:=NN) (λP hP=>?_) (tK ar)
  .have:=ar.nn
   omega
  .obtain⟨n,F,_,rfl⟩:=jy ar hP
   exact⟨n,(j6 ar F).2.1,F⟩
 have QS:A3[u.length]?=some (.lst []):=g3.get aI;refine dJ O ?_;refine eF (λrest τ A'=>∃(L f:B2) (i:Nat) (x3:Option D),rest=f.map D.ref/\L++f=gs/\i=L.length/\τ=[some x,some (.ref r),some (.ref u.length),x3]/\A'[u.length]?=some (.lst ((((bO Ts).take i).flatMap (iL Ts)).map cX))/\A'[q3]?=some (.lst (gs.map D.ref))/\fS (u.length+1) A' gs (bO Ts)/\Gr u A'/\(∀P∈(bO Ts).take i,∃ys:Ap,ys.Pairwise strLt/\∀x,x∈ys↔x∈aH P)) ?_ ?_ ?_ _ _ _ ⟨[],gs,0,none,rfl,rfl,rfl,rfl,QS,O,G,Gr.push.trans g3,λP h=>by simp at h⟩
 .rintro rest τ A' ⟨_,_,_,_,_,_,_,_,_,h,_⟩
  exact h
 .rintro v rest τ A4 ⟨L,f,i,x3,e1,o,hi,rfl,j,S,I,g4,y⟩ Nx hN
  cases f with
  |nil=>cases e1
  |cons t f=>
  cases e1;have hgt:gs[i]?=some t:=by rw[hi,<-o];simp
  obtain⟨Pg,U,QA⟩:=I.get hgt;have B:=cS U;obtain⟨n,F,_,Oq⟩:=jy ar B;subst Oq;obtain⟨ye,pin,_⟩:=j6 ar F;refine⟨gf j,rfl,r,t,Ts,NN,n,u,rfl,N,g4,ar,F,QA.lo ω,λA5 p kvs g5 h5 l5 fb=>?_⟩;have Zi:=ye.len;have S0:=ar.nn;have Zb:(aH (aY Ts n)).length=(aY Ts n).length:=by simp[aH]
  refine⟨rfl,p,kvs,_,_,rfl,h5,fb,ω,(λz=>by rw[z] at pin;cases pin),λm hm=>hF _ B m hm,λA6 ys g6 y1 y2=>?_⟩;have eU:=yE y1 y2;have et:ys.zip (lw (ys.map (dY Ts (aY Ts n))))=iL Ts (aY Ts n):=by
   unfold iL;rw[eU]
  rw[et];have V:=g6.get (g5.get j);have W:((bO Ts).take (i+1))=(bO Ts).take i++[aY Ts n]:=by
   rw[take_succ,U];rfl
  have X:=(g4.trans g5).trans g6;have sz:((((bO Ts).take i).flatMap (iL Ts)).map cX).length+((iL Ts (aY Ts n)).map cX).length<=sizeLine:=by
   have b1:(((bO Ts).take i).flatMap (iL Ts)).length<=12*((bO Ts).take i).length:=F7 λQ hQ=>by
    obtain⟨n',J,_,rfl⟩:=jy ar (rO hQ);have:=K5 Ts (aY Ts n');have:=(j6 ar J).1.len;simp[aH] at*
    omega
   have b2:=K5 Ts (aY Ts n);have b3:((bO Ts).take i).length<=12:=by rw[nJ];omega
   rw[aQ,aQ];omega
  refine OI V sz ?_;refine hN _ _ ⟨L++[t],f,i+1,_,rfl,by simpa using o,by simp[hi],rfl,?_,?_,?_,X.set (aJ _),λP hP=>?_⟩
  .rw[W,sj,di]
   have:([aY Ts n].flatMap (iL Ts))=iL Ts (aY Ts n):=θ
   rw[this];exact fy (dB V)
  .rw[fH ω]
   exact g6.get (g5.get S)
  .exact I.kO λq P hP=>(hP.gr (g5.trans g6)).set ω
  .rw[W] at hP
   rcases cu.mp hP with hP|hP
   .exact y P hP
   .rw[bS.mp hP]
    exact⟨ys,y1,y2⟩
 .rintro τ A4 ⟨L,f,i,x3,e1,o,hi,rfl,j,S,I,g4,y⟩
  cases f with
  |cons _ _=>cases e1
  |nil=>
  have o:L=gs:=by simpa using o
  have hil:i=(bO Ts).length:=by rw[hi,o,tX]
  rw[hil,zc (aJ _)] at j y;have j:A4[u.length]?=some (.lst ((kY Ts).map cX)):=j;obtain⟨t1,t2⟩:=yx (Ts:=Ts) (tK ar) y;have Y:∀x∈(kY Ts).map (·.1),x∈NN:=λx E=>by
   obtain⟨Q,hQ,hq⟩:=fX.mp (show x∈(bO Ts).flatMap aH from (t2 x).mp E);obtain⟨n',J,_,rfl⟩:=jy ar hQ;exact(j6 ar J).1.sub x hq
  have G8:(kY Ts).length<=12:=by
   have:=j5 _ NN t1 Y;have:=ar.nn;rw[aQ] at*
   exact dF (by assumption) (by assumption)
  refine W_ yl uI j (by rw[aQ];omega) (λd hd=>?_) (λd hd e he=>?_) λes pe se=>?_
  .obtain⟨p,hp,rfl⟩:=aS.mp hd
   exact rw_okU (Qy _ (Y _ (dN hp)))
  .obtain⟨p,hp,rfl⟩:=aS.mp hd
   obtain⟨p',Y0,rfl⟩:=aS.mp he;exact rw_ltU p p'
  obtain⟨rs,rfl⟩:=D9 (ds:=es) λd hd=>by
   obtain⟨p,_,rfl⟩:=aS.mp (pe.mem_iff.mp hd);exact⟨p,rfl⟩
  have pr:=UI pe;refine La aI ?_;exact q6 _ rs (((Z.trans g2).trans g4).trans Gr.push) pr (VL ((pr.map (·.1)).nodup_iff.mpr t1) se)
def n9(t c:Nat)(A A':Ar):Prop:=∀q x,q≠t->q≠c->A[q]?=some x->A'[q]?=some x
theorem n9.trans{t c:Nat}{A B C:Ar}(a:n9 t c A B)(b:n9 t c B C):n9 t c A C:=λq x h1 h2 h=>b q x h1 h2 (a q x h1 h2 h)
theorem eO.two{t c:Nat}{A A':Ar}(b:eO t A A'):n9 t c A A':=λq x h1 _ h=>b q x h1 h
def qy:Nat->Nat
 |0=>0
 |d+1=>5+2*qy d
def N5:Ap:=["a","b","c","d","e"]
structure Fw(m:M):Prop where
 arms:m.arms
 deep:m.deep<=2
 nd:m.names.Nodup
 sub:∀x∈m.names,x∈N5
theorem ny:∀n∈N5,Nm n:=λn a=>by
 simp only[N5,bx,gB,gC] at a;rcases a with rfl|rfl|rfl|rfl|rfl<;>exact⟨η,η,η⟩
theorem Fw.wf{m:M}(h:Fw m):Wf m:=⟨h.arms,λx a=>ny x (h.sub x a)⟩
def Mc(d:Nat):Ct:=λds A R _=>∃ns t c n ls,ds=[.fl ns,.ref t,.ref c,.int ((d:Int) - 1)]/\0<d/\t≠c/\Tw t n A/\n+qy d<=1000000/\A[c]?=some (.lst (ls.map D.str))/\ls≠[]/\ls.length<=10/\(∀x∈ls,Nm x)/\
 ∀m A' ls',m.arms->m.deep<d->(m.names++ls').Perm ls->n9 t c A A'->Tw t (n+qy d) A'->A'[c]?=some (.lst (ls'.map D.str))->R (enc m) A'
def DS(e:Nat):Ct:=λds A R E=>∃d,d<=e/\Mc d ds A R E
def DE:Ct:=λds A R _=>∃ns t n,ds=[.fl ns,.ref t]/\Tw t n A/\n+300<=1000000/\∀(ms:D2) A',1<=ms.length->ms.length<=6->(∀m∈ms,Fw m)->Dr t A A' n 300->R (.tup (ms.map enc)) A'
theorem Pr(T:TopD K mg "_law_of" Js xu)(l:mg "len"=none)(m:mg "range"=none)(a:av P w K mg base 3 "_law_draw" qX (au mg 3 sG))(g:av P w K mg base 4 "_law_pick" qY (au mg 3 qt)):∀e,av P w K mg base (e+4) "_law_of" xu (au mg 4 (DS e)):=by
 intro e;induction e with
 |zero=>
  refine nc T λds A R RE h=>?_;obtain⟨d,hd,ns,t,c,n,k,_,h,_⟩:=h;omega
 |succ e b=>
  refine jf T Kh rfl δ λN RE f cdv B outer s H E I hR u ds A R h hl=>?_;have hu:=I.units;have nd:=Kh.nd;refine⟨_,(aE (bY (PW.pt (gM (j8 hu (vr 3) aj) (iD (rD (dz gI a3 l gS (aa (vr 2) af)) aj)))) (aD (aP (cE (aa bR (aa (gJ gQ PySem.F.slot_list_pop PySem.F.type_list_pop SY NJ (vr 2) (aa (dL a I u (aa (vr 0) (aa (vr 1) (aa (dz gI a3 l gS (aa (vr 2) af)) af)))) af)) af))))) b_)
  (aE (vZ none (own:=[κz]) (aw:=[κa,κg]) (ix:=[0,1]) (i:=4) nd rfl (by first|exact Or.inl rfl|exact Or.inr rfl) rfl (s9 m (aa aj af)) (λc=>(pG 0 (η:([κz,κa,κg]:Ap).Nodup))) (λc=>(dP aj (dL a I mj (aa (vr 1) (aa (vr 2) (aa (dL g I mj (aa (vr 1) (aa (vr 2) (aa (dI (aa aj (aa aj (aa aj (aa aj af))))) af)))) af)))))))
  (aE (dS 5 nd (dL b I u (aa (vr 0) (aa (vr 1) (aa (vr 2) (aa (oM (vr 3) aj) af))))))
  (aE (bY (j8 hu (vr 2) (dI af)) (aD (aP (vr 5))) b_)
  (aD (aP (cE (aa bR (aa (dX hu (vr 4) aj) (aa (dX hu (vr 4) aj) (aa (vr 5) (aa (dL b I u (aa (vr 0) (aa (vr 1) (aa (vr 2) (aa (oM (vr 3) aj) af))))) af)))))))))))),?_⟩
  obtain⟨d0,hd0,ns,t,c,n,ls,rfl,hd1,o,ht,hn,L,M,O,S,q⟩:=h;obtain⟨d,rfl⟩:∃d,d0=d+1:=⟨d0 - 1,ω⟩;have hz:(1000000:Nat)<sizeLine:=δ
  have hcs:qy (d+1)=5+2*qy d:=rfl;have U:((d+1:Nat):Int) - 1=(d:Int):=ω
  have l0:0<ls.length:=uX.mpr M;have V:(ls.map D.str).length=ls.length:=aQ ..;refine cD (λc0=>?lA) (λc0=>nj L (cD (λc2=>?lB) (λc2=>?rd)));case rd=>
   have W:0<d:=by
    have c0:¬(((d+1:Nat):Int) - 1=0):=c0;omega
   have p:∀(x0:D) (J:Ar) (n2:Nat) (Q:DK),Tw t n2 J->n2+2<=1000000->(∀(most:Int) (G:Ar),1<=most->most<=9->eO t J G->Tw t (n2+2) G->Q (.int most) G)->br om (dC (D.int 1)) (iC 3 sG ua (aV (aT 1) (aV (aT 2) (aV (iC 3 qt ua (aV (aT 1) (aV (aT 2) (aV (vO (aV (dC (D.int 1)) (aV (dC (D.int 2)) (aV (dC (D.int 2)) (aV (dC (D.int 9)) cC))))) cC)))) cC)))) [some x0,some (.fl ns),some (.ref t)] J Q:=by
    intro x0 J n2 Q t2 hn2 hQ;obtain⟨Zl,QV,_⟩:=id t2;have l2:=dB QV;refine⟨(δ:4<=sizeLine),rfl,ns,t,_,[.int 1,.int 2,.int 2,.int 9],n2,rfl,ω,aI,θ,t2.gr Gr.push,ω,λx G u b3 t3=>?_⟩;obtain⟨most,rfl,m0,m9⟩:∃k:Int,x=.int k/\1<=k/\k<=9:=by
     simp at u;rcases u with h|h|h<;>exact⟨_,h,ω,ω⟩
    refine⟨rfl,ns,t,most,n2+1,rfl,t3,ω,ω,λi A4 i0 i1 b4 t4=>?_⟩;exact hQ (1+i) A4 ω ω ((Gr.push.but.trans b3).trans b4) t4
   refine⟨δ,δ,trivial,p _ A n _ ht ω λa1 J u1 u2 b2 t2=>⟨(δ:0<sizeLine),trivial,p _ J (n+2) _ t2 ω λa2 G u3 u4 b3 t3=>⟨(δ:1<sizeLine),trivial,?_⟩⟩⟩;have X:eO t A G:=b2.trans b3;have t4:=t3.gr (Gr.push (T:=[C.lst [D.int a1,D.int a2]]));have h4:=aI (A:=G) (c:=C.lst [D.int a1,D.int a2]);obtain⟨xt,QW,_⟩:=id t3;have Sg:=dB QW;have c3:=X c _ (Ne.symm o) L;have Za:=dB c3;have c4:=getElem?_push (T:=[C.lst [D.int a1,D.int a2]]) c3;have e4:[]++[D.int a1]++[D.int a2]=[D.int a1,D.int a2]:=rfl;rw[e4];have Ms:n9 t c A (G++[C.lst [D.int a1,D.int a2]]):=(X.trans Gr.push.but).two;refine⟨rfl,d,ω,ns,t,c,n+2+2,ls,show [D.fl ns,D.ref t,D.ref c,D.int (((d+1:Nat):Int) - 1 - 1)]=_ by rw[U],W,o,t4,ω,c4,M,O,S,λm1 A5 iT w1 d1 p1 b5 t5 c5=>?_⟩;have Y:∀x∈iT,Nm x:=λx u=>S x (p1.mem_iff.mp (iy _ u));refine⟨cA _,FT c5 (uD _) (by rw[rm];exact tV _ Y) ?_⟩;have r:Gr A5 (A5++[C.lst []]):=Gr.push;generalize (A5++[C.lst []]:Ar)=A6 at r ⊢;have Z:=(Ms.trans b5).trans r.but.two;have GB:=r.get (b5 G.length _ ω ω h4);have t6:=t5.gr r;have c6:=r.get c5;refine cD (λcn=>?_) (λcn=>?_)
   .have:iT=[]:=C2.mp cn
    subst this;exact q m1 _ [] w1 ω p1 Z (t6.mono ω) c6
   .have ne1:iT≠[]:=λz=>cn (by rw[z];rfl)
    have l1:iT.length<=10:=by
     have:=p1.length_eq;rw[dZ] at this;omega
    refine jg GB (v:=.int a1) rfl ?_;refine jg GB (v:=.int a2) rfl ?_;refine⟨rfl,d,ω,ns,t,c,_,iT,show [D.fl ns,D.ref t,D.ref c,D.int (((d+1:Nat):Int) - 1 - 1)]=_ by rw[U],W,o,t6,ω,c6,ne1,l1,Y,λm2 A7 j4 w2 d2 p2 b7 t7 c7=>?_⟩;refine⟨(δ:5<=sizeLine),q (.cz a1 a2 m1 m2) _ j4 ⟨u1,u2,u3,u4,w1,w2⟩ (ω:max m1.deep m2.deep+1<d+1) ?_ (Z.trans b7) (t7.mono ω) c7⟩;show((m1.names++m2.names)++j4).Perm ls;rw[nR];exact(Perm.append_left _ p2).trans p1
  all_goals
   refine⟨gf L,nj L ⟨rfl,ns,t,_,n,rfl,ht,ω,by rw[V];omega,λi A1 i0 i1 b1 t1=>?_⟩⟩;rw[V] at i1;obtain⟨j,rfl⟩:∃j:Nat,i=(j:Int):=⟨i.toNat,ω⟩;have hj:j<ls.length:=ω
   have AN:=b1 c _ (Ne.symm o) L;refine UX AN (k:=j) (y:=.str ls[j]) rfl ω (by rw[bM,a_ hj];rfl) ?_;have u:ls[j]∈ls:=lu hj;refine⟨(δ:2<=sizeLine),q (.wt ls[j]) _ (ls.eraseIdx j) trivial (succ_pos _) ?_ (λq x h1 h2 h=>by rw[fH (Ne.symm h2)];exact b1 q x h1 h) ?_ ?_⟩
   .show([ls[j]]++ls.eraseIdx j).Perm ls
    exact(SS.yd ls j _ (a_ hj)).symm
   .obtain⟨xs,hx',hl'⟩:=t1
    exact⟨xs,by rw[fH (Ne.symm o)];exact hx',ω⟩
   .rw[fy (dB AN)]
    rw[za,za,di,List.map_take,map_drop]
theorem O1(T:TopD K mg "_law_hall" Jl xo)(p:mg "list"=none)(l:mg "range"=none)(o:mg "tuple"=none)(f:av P w K mg base 3 "_law_draw" qX (au mg 3 sG))(g:av P w K mg base 4 "_law_pick" qY (au mg 3 qt))(j:av P w K mg base 7 "_law_of" xu (au mg 4 (DS 3))):av P w K mg base 8 "_law_hall" xo (au mg 2 DE):=by
 refine bW T V5 λL hR s hu nd=>⟨_,(aE (dS 2 nd (dI (aa bR (aa bR (aa bR (aa bR (aa bR af)))))))
  (aE (dS 3 nd (dI af))
  (aE (d8 dM rfl (s9 l (aa (dP aj (dL f L s (aa (vr 0) (aa (vr 1) (aa aj af))))) af)) (dG 4 nd) (aE (dS 5 nd (ie Ep E1 p lK (aa (vr 2) af)))
  (aE (dS 6 nd (dL g L s (aa (vr 0) (aa (vr 1) (aa (dI (aa aj (aa aj (aa aj (aa aj af))))) af)))))
  (aD (fm (gJ gQ pU p7 nv oG (vr 3) (aa (dL j L s (aa (vr 0) (aa (vr 1) (aa (vr 5) (aa (vr 6) af))))) af)))))))
  (aD (aP (ie Es E4 o nU (aa (vr 3) af))))))),λds A R h hl=>?_⟩
 obtain⟨ns,t,n,rfl,ht,hn,q⟩:=h;have hz:(1000:Nat)<=sizeLine:=δ
 obtain⟨xt,N,_⟩:=id ht;have Sf:=dB N;have e5:[D.str "a",D.str "b",D.str "c",D.str "d",D.str "e"]=N5.map D.str:=rfl;refine⟨(δ:5<=sizeLine),cA _,rfl,ns,t,6,n,rfl,(ht.gr Gr.push).gr Gr.push,ω,δ,λi A1 i0 i6 O t1=>?_⟩;have Q:(A++[C.lst (N5.map D.str)]++[C.lst []])[A.length]?=some (.lst (N5.map D.str)):=getElem?_push aI;have S:(A++[C.lst (N5.map D.str)]++[C.lst []])[(A++[C.lst (N5.map D.str)]).length]?=some (.lst []):=aI;have la:(A++[C.lst (N5.map D.str)]).length=A.length+1:=θ
 have U:=O _ _ ω Q;have E:=O _ _ ω S;have V:eO t A A1:=(Gr.push.but.trans Gr.push.but).trans O;rw[la] at E;obtain⟨k,rfl⟩:∃k:Nat,i=(k:Int):=⟨i.toNat,ω⟩;refine⟨ω,ω,?_⟩;rw[(θ:(A++[C.lst [D.str "a",D.str "b",D.str "c",D.str "d",D.str "e"]]).length=A.length+1)];refine eF (λrest τ A'=>∃(ms:D2) (a b c:Option D),τ=[some (.fl ns),some (.ref t),some (.ref A.length),some (.ref (A.length+1)),a,b,c]/\rest.length+ms.length=k+1/\eO t A A'/\Tw t (n+1+40*ms.length) A'/\A'[A.length]?=some (.lst (N5.map D.str))/\A'[A.length+1]?=some (.lst (ms.map enc))/\∀m∈ms,Fw m) ?_ ?_ ?_ _ _ _ ⟨[],none,none,none,rfl,by simp[fF];omega,V,t1,U,E,λm h=>by cases h⟩
 .intro _ _ _ _
  trivial
 .rintro v rest τ u ⟨ms,a,b,c,rfl,e,W,J,y,r,z⟩ Nx hN
  simp at e;refine Se y ?_;have X:(u++[C.lst (N5.map D.str)])[u.length]?=some (.lst (N5.map D.str)):=aI;have l2:=dB r;obtain⟨Zm,F,_⟩:=id J;have Ze:=dB F;have g3:Gr u (u++[C.lst (N5.map D.str)]):=Gr.push;refine⟨(δ:4<=sizeLine),rfl,ns,t,_,[.int 0,.int 1,.int 1,.int 2],_,rfl,by simp;omega,aI,θ,(J.gr g3).gr Gr.push,ω,λx A4 s b4 t4=>?_⟩;obtain⟨d,rfl,d2⟩:∃d:Nat,x=.int (((d+1:Nat):Int) - 1)/\d<=2:=by
   simp at s;rcases s with rfl|rfl|rfl
   .exact⟨0,θ,ω⟩
   .exact⟨1,θ,ω⟩
   .exact⟨2,θ,ω⟩
  have B:eO t u A4:=(g3.but.trans Gr.push.but).trans b4;have Y:=b4 u.length _ ω ((Gr.push (T:=[C.lst [D.int 0,D.int 1,D.int 1,D.int 2]])).get X);have G:=B _ _ ω r;have Z:=B _ _ ω y;have cs:qy (d+1)<=35:=by
   have:d=0\/d=1\/d=2:=ω
   rcases this with rfl|rfl|rfl<;>decide
  have n5:N5.length=5:=rfl;refine⟨gf G,rfl,d+1,ω,ns,t,u.length,_,N5,rfl,ω,ω,t4,ω,Y,by simp[N5],ω,ny,λm A5 ls' ma md mp b5 t5 c5=>?_⟩;have H:=b5 _ _ ω ω G;have QN:=b5 _ _ ω ω Z;have fw:Fw m:=⟨ma,ω,?_,λx s=>mp.mem_iff.mp (mK _ s)⟩
  .refine ou H (by rw[aQ];omega) ?_
   have I:∀(A':Ar) (k:Nat),Tw t k A'->Tw t k (A'.set (A.length+1) (.lst (ms.map enc++[enc m]))):=λA' k ⟨xs,h1,h2⟩=>⟨xs,by rw[fH ω];exact h1,h2⟩;refine hN _ _ ⟨ms++[m],_,_,_,rfl,by simp;omega,λq c hq h=>?_,?_,?_,?_,λm' hm'=>?_⟩
   .have:=dB h
    rw[fH ω];exact b5 q c hq ω (B q c hq (W q c hq h))
   .exact(I _ _ t5).mono (by simp;omega)
   .rw[fH ω]
    exact QN
   .rw[fy (dB H),di]
    rfl
   .rcases cu.mp hm' with h|h
    .exact z m' h
    .rw[bS.mp h];exact fw
  .have:(m.names++ls').Nodup:=mp.nodup_iff.mpr η
   exact(nK.mp this).1
 .rintro τ u ⟨ms,a,b,c,rfl,e,W,J,y,r,z⟩
  simp at e;refine La r ?_;exact q ms _ ω ω z ⟨W,J.mono ω⟩
theorem Ba{α β:Type}{f:α->β}:∀{l:List α},(l.map f).Nodup->∀a∈l,∀b∈l,f a=f b->a=b
 |[],_,a,ha,_,_,_=>by cases ha
 |x::l,h,a,ha,b,hb,e=>by
  obtain⟨h1,h2⟩:=lD.mp (show(f x::l.map f).Nodup from h);rcases bx.mp ha with c|ha<;>rcases bx.mp hb with d|hb
  .rw[c,d]
  .exact absurd (by rw[<-c,e];exact dN hb) h1
  .exact absurd (by rw[<-d,<-e];exact dN ha) h1
  .exact Ba h2 a ha b hb e
theorem Fw.hl{m:M}(h:Fw m):Hl m:=⟨h.wf,by have:=h.deep;omega,EJ _ [] λa c b d e=>by
 rw[d_] at c d;have nd:((b6 m "" 1).map (·.2.1)).Nodup:=by rw[pN];exact h.nd
 rw[Ba nd a c b d e]⟩
theorem nh{ms:D2}(d:ms.length<=6)(h:∀m∈ms,Fw m):d7 (ms.map aM) N5:=by
 refine⟨by rw[aQ];omega,λT b=>?_,δ,λT b n c=>?_⟩
 .obtain⟨m,a,rfl⟩:=aS.mp b
  exact(mE (h m a).hl).1
 .obtain⟨m,a,rfl⟩:=aS.mp b
  exact(h m a).sub n (((mE (h m a).hl).2.1 n).mp c)
theorem Bd{ms:D2}(h1:1<=ms.length)(a:ms.length<=6)(h:∀m∈ms,Fw m):gq (.tup (ms.map enc)) ms:=⟨rfl,h1,a,λm b=>(h m b).hl⟩
theorem AR{ms a:D2}(h:gq (.tup (ms.map enc)) a):a=ms:=(Ay (D.tup.inj h.1)).symm
theorem HS{B:Ar}{ls:D2}(a:∀m∈ls,Fw m):iV B (.tup (ls.map enc))=true:=gp.mpr λx c=>by
 obtain⟨m,b,rfl⟩:=aS.mp c;exact ud (a m b).wf (by have:=(a m b).deep;omega)
theorem Ip{j k:Nat}(h:j<=k):(9:Int) ^ j<=9 ^ k:=pJ (c:=9) δ h
theorem Cg:∀(m:M) (x:Rat) (B:Int),m.arms->0<x->(rf x).1<=B->∀s∈m.sh x,(rf s).1<=B*9 ^ m.deep
 |.wt _,x,B,_,h1,h2,s,hs=>by
  have:s=x:=by simpa[bK.sh] using hs
  subst this;simpa[bK.deep] using h2
 |.cz l r a b,x,B,h,h1,h2,s,hs=>by
  obtain⟨c,p,d,q,e,f⟩:=h;have g:0<B:=rZ (cW h1) h2;have np:=cW h1;have i:(rf (x*((r:Rat)/((l+r:Int):Rat)))).1<=B*9:=by
   refine eN (num_mul ω (rQ ω ω)) ?_;exact dH h2 ω ω ω
  have j:(rf (x*((l:Rat)/((l+r:Int):Rat)))).1<=B*9:=by
   refine eN (num_mul ω (rQ ω ω)) ?_;exact dH h2 ω ω ω
  have n:0<x*((r:Rat)/((l+r:Int):Rat)):=bK.step_pos c d h1;have p2:0<x*((l:Rat)/((l+r:Int):Rat)):=by
   have:=bK.step_pos (l:=r) (r:=l) d c h1;rwa [add_comm r l] at this
  have up:∀k:Nat,k<=max a.deep b.deep->B*9*9 ^ k<=B*9 ^ (max a.deep b.deep+1):=λk o=>by
   rw[jn,lC,nO 9 (9 ^ k)];refine pY ?_ (dO g);exact y_ (Ip o) δ
  rcases cu.mp (show s∈a.sh _++b.sh _ from hs) with hs|hs
  .exact eN (Cg a _ _ e n i s hs) (up _ (rJ _ _))
  .exact eN (Cg b _ _ f p2 j s hs) (up _ (rK _ _))
theorem Fw.sh{m:M}(h:Fw m){n:Str}(b:n∈m.names):0<shr m n/\(rf (shr m n)).1<=81/\(rf (shr m n)).2<=324:=by
 have a:shr m n∈m.sh 1:=by
  rw[<-(yr h.hl.bar).2];exact dN b
 obtain⟨c,d⟩:=bK.yq m 1 1 h.arms δ δ _ a;have e:=Cg m 1 1 h.arms δ δ _ a;have p:=ri h.deep;have q:=Ip h.deep;rw[one_mul] at d e;have f:(18:Int) ^ 2=324:=δ
 have g:(9:Int) ^ 2=81:=δ
 exact⟨c,ω,ω⟩
theorem KJ{ms:D2}(h:∀m∈ms,Fw m){s:bg}(g:cU (ms.map aM) s):0<b8 (ms.map aM) s/\(rf (b8 (ms.map aM) s)).1<=26244/\(rf (b8 (ms.map aM) s)).2<=26244:=by
 obtain⟨T,h1,h2,e⟩:=g;unfold b8;rw[iZ h1,iZ h1];obtain⟨m,b,rfl⟩:=aS.mp (cS h1);have a:=mE (h m b).hl;rw[a.2.2 _ h2,a.2.2 _ e];obtain⟨c,i,j⟩:=(h m b).sh ((a.2.1 _).mp h2);obtain⟨d,k,l⟩:=(h m b).sh ((a.2.1 _).mp e);have p2:=cW c;have n:=cW d;have f:=ck (shr m s.2.1);have d3:=ck (shr m s.2.2);refine⟨by rw[vd];exact mQ d (Rat.inv_pos.mpr c),?_⟩;rw[vV d c];obtain⟨k1,k2⟩:=uG (cT n f) (cT d3 p2);have o:(rf (shr m s.2.2)).1*(rf (shr m s.2.1)).2<=81*324:=dH k j (dO f) δ;have p:(rf (shr m s.2.2)).2*(rf (shr m s.2.1)).1<=324*81:=dH l i (dO p2) δ;exact⟨ω,ω⟩
theorem EC{ms:D2}(h:∀m∈ms,Fw m):∀(ss:List bg) (x:Rat) (k:Nat),(∀s∈ss,cU (ms.map aM) s)->0<x->(rf x).1<=(26244:Int) ^ k->(rf x).2<=(26244:Int) ^ k->0<ss.foldl (λx s=>x*b8 (ms.map aM) s) x/\(rf (ss.foldl (λx s=>x*b8 (ms.map aM) s) x)).1<=(26244:Int) ^ (k+ss.length)/\(rf (ss.foldl (λx s=>x*b8 (ms.map aM) s) x)).2<=(26244:Int) ^ (k+ss.length)
 |[],x,k,_,h1,h2,c=>⟨h1,h2,c⟩
 |s::ss,x,k,d,h1,h2,c=>by
  obtain⟨pos,g,i⟩:=KJ h (d s (bA ..));have z:(0:Int)<=26244 ^ k:=mL δ;have j:=cW h1;have xd:=ck x;have e:=cW pos;have f:=ck (b8 (ms.map aM) s);obtain⟨l,n⟩:=uG (a:=(rf x).1*(rf (b8 (ms.map aM) s)).1) (b:=(rf x).2*(rf (b8 (ms.map aM) s)).2) (cT j e) (cT xd f);rw[Ca] at l n;have p:(rf x).1*(rf (b8 (ms.map aM) s)).1<=26244 ^ k*26244:=dH h2 g (dO e) z;have q:(rf x).2*(rf (b8 (ms.map aM) s)).2<=26244 ^ k*26244:=dH c i (dO f) z;have:=EC h ss (x*b8 (ms.map aM) s) (k+1) (λy o=>d y (bz _ o)) (mQ h1 pos) (by rw[jn];omega) (by rw[jn];omega);rw[gF,iw,(ω:k+(ss.length+1)=k+1+ss.length)];exact this
theorem Qn{ms:D2}(e:ms.length<=6)(h:∀m∈ms,Fw m):∀P∈bO (ms.map aM),∀n∈aH P,ql (dY (ms.map aM) P n):=λP f n g=>by
 have ar:=nh e h;obtain⟨b,d,_,rfl⟩:=jy ar f;have a:=(j6 ar d).1;have pm:=ji g;have pl:=a.pl _ pm;have pn:=a.len;have l:N5.length=5:=rfl;obtain⟨k1,k2,k3⟩:=EC h (c9 (aY (ms.map aM) b) n) 1 0 (λs i=>yb _ pm s i) δ (by rw[uH];decide) (by rw[uH];decide);have j:0+(c9 (aY (ms.map aM) b) n).length<=4:=by
  simp at pl;omega
 have p:=pJ (c:=26244) δ j;have k:((26244:Nat):Int) ^ 4=474373168346071296:=δ
 rw[k] at p;have p:(26244:Int) ^ (0+(c9 (aY (ms.map aM) b) n).length)<=474373168346071296:=p;exact⟨k1,by show(rf (cO _ _)).1<=_;unfold cO;omega,by show(rf (cO _ _)).2<=_;unfold cO;omega⟩
def Dk(k:Nat)(d:D):Prop:=gO d=true/\(toQ d).canLay0=true/\(toQ d).depth<=k
theorem Ao{k:Nat}:∀{xs:Bi},(∀d∈xs,Dk k d)->fP xs=true/\canLayAll0 (bG xs)=true/\depthAll (bG xs)<=k
 |[],_=>⟨rfl,rfl,by simp[bG,depthAll]⟩
 |d::xs,h=>by
  obtain⟨a1,a2,e⟩:=h d (bA ..);obtain⟨a,b,f⟩:=Ao λx c=>h x (bz _ c);refine⟨by show(gO d&&fP xs)=true;rw[a1,a];rfl,?_,?_⟩
  .simp[bG,canLayAll0,a2,b]
  .simp only[bG,depthAll]
   omega
theorem Oe{k:Nat}{xs:Bi}(h:∀d∈xs,Dk k d):Dk (k+1) (.tup xs):=by
 obtain⟨a,b,c⟩:=Ao h;refine⟨a,?_,?_⟩
 .show canLay0 (.tuple (bG xs))=true
  simpa[canLay0] using b
 .show PyData.depth (.tuple (bG xs))<=k+1
  simp only[PyData.depth];omega
theorem Fv{i:Int}{k:Nat}:Dk k (.int i):=⟨rfl,by simp[toQ,canLay0],by simp[toQ,PyData.depth]⟩
theorem Od{k:Nat}{a b:D}(c:Dk k a)(e:Dk k b):Dk (k+1) (.tup [a,b]):=Oe λd hd=>by
 rcases bx.mp hd with rfl|hd
 .exact c
 .rw[bS.mp hd];exact e
theorem Pd(T:TopD K mg "_law_leaves" Jp uf):∀d,av P w K mg base (d+1) "_law_leaves" uf (au mg 2 (qp d)):=by
 intro d;induction d with
 |zero=>
  refine nc T λds A R RE h=>?_;obtain⟨v,⟨m,w,_,h,_⟩,_⟩:=h;omega
 |succ d c=>
  refine jf T V8 rfl δ λN RE f k B outer s H E g t i ds A R h hl=>?_;have e:=g.units;refine⟨_,(aE (bY (j8 e (dX e (vr 0) aj) bR) (aD (aP (dI (aa (cE (aa (vr 1) (aa (dX e (vr 0) aj) af))) af)))) b_)
  (aD (aP (dP (dL c g i (aa (dX e (vr 0) aj) (aa (dP (vr 1) bR) af))) (dL c g i (aa (dX e (vr 0) aj) (aa (dP (vr 1) bR) af))))))),?_⟩
  obtain⟨v,⟨m,w,rfl,hd,u,z,rfl⟩,q⟩:=h;have C:(100:Nat)<=sizeLine:=δ
  cases m with
  |wt n=>exact⟨by show 2<=sizeLine;omega,by show 1<=sizeLine;omega,q _ _ Gr.push aI⟩
  |cz l r a b=>
   have o:max a.deep b.deep+1<d+1:=hd;have D:("l":Str).length=1:=η
   have F:("r":Str).length=1:=η
   have al:∀x y:Str,(x++y).length=x.length+y.length:=λx y=>u6;refine⟨ω,rfl,_,⟨a,_,rfl,ω,by rw[al];omega,ω,rfl⟩,λG I p h1=>?_⟩;refine⟨ω,rfl,_,⟨b,_,rfl,ω,by rw[al];omega,ω,rfl⟩,λJ L j h2=>?_⟩;have n1:=bK.kR a;have n2:=bK.kR b;have M:2 ^ a.deep<=2 ^ 8:=fK δ ω;have p2:2 ^ b.deep<=2 ^ 8:=fK δ ω;have hz:(512:Nat)<=sizeLine:=δ
   refine kG (j.get h1) h2 (by rw[aQ,aQ,o8,o8];omega) (q _ _ ((p.trans j).trans Gr.push) ?_);rw[aI];simp[kN]
def qq:Ct:=vE
def DZ(d:Nat):Ct:=λds A R _=>∃(m:M) (u v:Int),ds=[enc m,.int u,.int v]/\m.arms/\m.deep<d/\d<=4/\0<u/\0<v/\u<=9 ^ (4 - d)/\v<=18 ^ (4 - d)/\∀(A':Ar) (q:Nat),Gr A A'->A'[q]?=some (.lst ((m.sh ((u:Rat)/(v:Rat))).map fq))->R (.ref q) A'
def ef(A:Ar):B2->Bz->Prop
 |[],[]=>True
 |t::ts,T::Ts=>A[t]?=some (.dct (bB T))/\ef A ts Ts
 |_,_=>False
def Lq(A:Ar)(r:Nat)(Ts:Bz):Prop:=∃ts,A[r]?=some (.lst (ts.map D.ref))/\ef A ts Ts
theorem ef.gr{A B:Ar}(g:Gr A B):∀{a:B2} {Ts:Bz},ef A a Ts->ef B a Ts
 |[],[],_=>trivial
 |_::_,_::_,h=>⟨g.get h.1,ef.gr g h.2⟩
 |[],_::_,h=>h.elim
 |_::_,[],h=>h.elim
theorem ef.len{A:Ar}:∀{a:B2} {Ts:Bz},ef A a Ts->a.length=Ts.length
 |[],[],_=>rfl
 |_::_,_::_,h=>by simp[ef.len h.2]
 |[],_::_,h=>h.elim
 |_::_,[],h=>h.elim
theorem ef.snoc{A:Ar}{t:Nat}{T:Tb}(a:A[t]?=some (.dct (bB T))):∀{b:B2} {Ts:Bz},ef A b Ts->ef A (b++[t]) (Ts++[T])
 |[],[],_=>⟨a,trivial⟩
 |_::_,_::_,h=>⟨h.1,ef.snoc a h.2⟩
 |[],_::_,h=>h.elim
 |_::_,[],h=>h.elim
theorem ef.get{A:Ar}:∀{a:B2} {Ts:Bz} {i t:Nat},ef A a Ts->a[i]?=some t->∃T,Ts[i]?=some T/\A[t]?=some (.dct (bB T))
 |[],[],i,t,_,h=>by simp at h
 |t'::a,T::Ts,0,t,h,e=>by simp at e;subst e;exact⟨T,rfl,h.1⟩
 |t'::a,T::Ts,i+1,t,h,e=>by
  obtain⟨b,h1,h2⟩:=ef.get h.2 (show a[i]?=some t by simpa using e);exact⟨b,by simpa using h1,h2⟩
 |[],_::_,_,_,h,_=>h.elim
 |_::_,[],_,_,h,_=>h.elim
theorem ef.cons{A:Ar}{t:Nat}{b:B2}{Ts:Bz}(h:ef A (t::b) Ts):∃T a,Ts=T::a/\A[t]?=some (.dct (bB T))/\ef A b a:=by
 cases Ts with
 |nil=>exact h.elim
 |cons T a=>exact⟨T,a,rfl,h.1,h.2⟩
def sF:Ct:=λds A R _=>∃ms:D2,ds=[.tup (ms.map enc)]/\ms.length<=6/\(∀m∈ms,Fw m)/\∀(A':Ar) (q:Nat),Gr A A'->Lq A' q (ms.map aM)->A.length<=q->R (.ref q) A'
theorem Pc(T:TopD K mg "_law_least" Jo pH):av P w K mg base 1 "_law_least" pH (au mg 2 qq):=by
 refine bW T V7 λu z B C nd=>⟨_,(aE (FD (i:=2) (j:=3) rfl nd rfl rfl δ rfl rfl (aa (vr 0) (aa (vr 1) af)) rfl)
  (aE (As dM (Cw (vr 3) aj) (aD (FD (i:=2) (j:=3) rfl nd rfl rfl δ rfl rfl (aa (vr 3) (aa (oJ (vr 2) (vr 3)) af)) rfl)))
  (aD (aP (cE (aa (oH (vr 0) (vr 2)) (aa (oH (vr 1) (vr 2)) af))))))),λds A R h hl=>?_⟩
 obtain⟨v,⟨a,b,rfl,o,D,hz,rfl⟩,q⟩:=h;have l:0<(Int.gcd a b:Int):=by
  have:=Int.gcd_pos_of_ne_zero_left b (ω:a≠0);omega
 have hl:(Int.gcd a b:Int)<=a:=le_of_dvd o (gcd_dvd_left a b);have m:(Int.gcd a b:Int).natAbs.log2<9000:=by
  have h1:(Int.gcd a b:Int).natAbs<2 ^ 2000:=ω
  have:=(log2_lt (n:=(Int.gcd a b:Int).natAbs) (k:=2000) ω).mpr h1;omega
 refine⟨λn τ A'=>A'=A/\∃(x y:Int),τ=[some (.int a),some (.int b),some (.int x),some (.int y)]/\0<=x/\0<=y/\Int.gcd x y=Int.gcd a b/\n=y.toNat,⟨_,rfl,a,b,rfl,ω,ω,rfl,rfl⟩,?_⟩;rintro n τ A' ⟨rfl,x,y,rfl,h0,h1,f,rfl⟩;refine cD (λc=>?_) (λc=>?_)
 .refine⟨λτ p=>p=A'/\∃(g d:Int),τ=[some (.int a),some (.int b),some (.int g),some (.int d)]/\0<=g/\0<=d/\Int.gcd g d=Int.gcd a b/\d.toNat<y.toNat,λbX A' ⟨e,g,d,h1,h2,r,s,t⟩=>⟨_,t,e,g,d,h1,h2,r,s,rfl⟩,?_⟩
  have m0:=vg x (ω:y≠0);have E:=vf x (ω:0<y);exact⟨c,rfl,y,x%y,rfl,h1,m0,by rw[Gq h0 c];exact f,ω⟩
 .have e:y=0:=ω
  subst e;have ex:(x:Int)=(Int.gcd a b:Int):=by rw[<-f,Int.gcd_zero_right];omega
  subst ex;exact⟨⟨l,m⟩,⟨l,m⟩,(δ:2<=sizeLine),q _ Gr.refl⟩
theorem PK(T:TopD K mg "_law_shares" Jv xx)(g:av P w K mg base 1 "_law_least" pH (au mg 2 qq)):∀d,av P w K mg base (d+2) "_law_shares" xx (au mg 3 (DZ d)):=by
 intro d;induction d with
 |zero=>
  refine nc T λds A R RE h=>?_;obtain⟨m,u,v,_,_,h,_⟩:=h;omega
 |succ d e=>
  refine jf T Kl rfl δ λN RE f J B outer s H E z hR o ds A R h hl=>?_;have j:=z.units;have nd:=Kl.nd;refine⟨_,(aE (bY (j8 j (dX j (vr 0) aj) bR) (aD (aP (dI (aa (dL g z o (aa (vr 1) (aa (vr 2) af))) af)))) b_)
  (aE (dS 3 nd (dP (dX j (vr 0) aj) (dX j (vr 0) aj)))
  (aE (dS 4 nd (dL e z o (aa (dX j (vr 0) aj) (aa (dQ (vr 1) (dX j (vr 0) aj)) (aa (dQ (vr 2) (vr 3)) af)))))
  (aD (aP (dP (vr 4) (dL e z o (aa (dX j (vr 0) aj) (aa (dQ (vr 1) (dX j (vr 0) aj)) (aa (dQ (vr 2) (vr 3)) af)))))))))),?_⟩
  obtain⟨m,u,v,rfl,L,hd,h4,k,i,p,t,q⟩:=h;have y:∀x:Int,x<=9 ^ 4->x<2 ^ 2000:=λx o=>rM o (rZ (δ:(9 ^ 4:Int)<2 ^ 64) (by
   have:(2:Nat) ^ 64<=2 ^ 2000:=fK δ δ;exact_mod_cast this))
  have hs:(100:Nat)<=sizeLine:=δ
  have D:(9:Int) ^ (4 - d)=9 ^ (4 - (d+1))*9:=by rw[<-jn];congr 1;omega
  have C:(18:Int) ^ (4 - d)=18 ^ (4 - (d+1))*18:=by rw[<-jn];congr 1;omega
  have q9:(9:Int) ^ (4 - (d+1))<=9 ^ 4:=pJ (c:=9) δ ω;have O:(18:Int) ^ (4 - d)<=18 ^ 4:=pJ (c:=18) δ ω;have Q:(18:Int) ^ 4=104976:=δ
  cases m with
  |wt n=>
   refine⟨rfl,_,⟨u,v,rfl,k,i,y _ ω,rfl⟩,λS F=>⟨(δ:1<=sizeLine),q _ _ (F.trans Gr.push) ?_⟩⟩;rw[yg i];exact aI
  |cz l r a b=>
   obtain⟨F,U,g3,V,W,X⟩:=L;have Y:max a.deep b.deep+1<d+1:=hd;have Z:u*r<=9 ^ (4 - d):=by rw[D];exact dH p V ω (mL δ)
   have m2:u*l<=9 ^ (4 - d):=by rw[D];exact dH p U ω (mL δ)
   have G:v*(l+r)<=18 ^ (4 - d):=by rw[C];exact dH t ω ω (mL δ)
   refine⟨.inr ⟨ω,ω⟩,.inr ⟨ω,ω⟩,rfl,a,u*r,v*(l+r),rfl,W,ω,ω,cT k ω,cT i ω,Z,G,λS r1 k1 h1=>?_⟩;refine⟨.inr ⟨ω,ω⟩,.inr ⟨ω,ω⟩,rfl,b,u*l,v*(l+r),rfl,X,ω,ω,cT k ω,cT i ω,m2,G,λA2 r2 k2 h2=>?_⟩;have n1:=bK.kR a;have n2:=bK.kR b;have p1:2 ^ a.deep<=2 ^ 4:=fK δ ω;have p2:2 ^ b.deep<=2 ^ 4:=fK δ ω;have I:∀(m:M) (x:Rat),(m.sh x).length=m.names.length:=λm x=>by rw[<-uL m "" x,aQ,pM]
   refine kG (k2.get h1) h2 (by rw[aQ,aQ,I,I];omega) (q _ _ ((k1.trans k2).trans Gr.push) ?_);rw[aI];have e1:((u*r:Int):Rat)/((v*(l+r):Int):Rat)=(u:Rat)/(v:Rat)*((r:Rat)/((l+r:Int):Rat)):=mul_div i ω;have e2:((u*l:Int):Rat)/((v*(l+r):Int):Rat)=(u:Rat)/(v:Rat)*((l:Rat)/((l+r:Int):Rat)):=mul_div i ω;rw[e1,e2,<-di];rfl
theorem OO(T:TopD K mg "_law_books" Ji qW)(n:mg "dict"=none)(o:mg "list"=none)(s:mg "zip"=none)(b:av P w K mg base 9 "_law_leaves" uf (au mg 2 (qp 8)))(g:av P w K mg base 5 "_law_shares" xx (au mg 3 (DZ 3))):av P w K mg base 10 "_law_books" qW (au mg 1 sF):=by
 refine bW T V2 λW hR X hu nd=>⟨_,(aE (dS 1 nd (dI af))
  (aE (d8 dM rfl (cj (vr 0)) (dG 2 nd) (aE (vZ (some 2) (own:=[κn,κc]) (aw:=[]) (ix:=[]) (i:=3) nd rfl (by first|exact Or.inl rfl|exact Or.inr rfl) rfl (cj (dL b W X (aa (vr 2) (aa bR af)))) (λc=>(mq rfl (gj (pG 0 (η:([κn,κc]:Ap).Nodup)) (gj (pG 1 (η:([κn,κc]:Ap).Nodup)) mu)))) (λc=>(vr 1)))
  (aD (fm (gJ gQ pU p7 nv oG (vr 1) (aa (ie (qv rfl) qz n r9 (aa (NX o s rfl (aa (vr 3) (aa (dL g W X (aa (vr 2) (aa aj (aa aj af)))) af))) af)) af))))))
  (aD (aP (vr 1))))),λds A R h hl=>?_⟩
 obtain⟨ms,rfl,h6,hF,q⟩:=h;have hz:(1000:Nat)<=sizeLine:=δ
 refine⟨cA _,?_⟩;refine eF (λrest τ A'=>∃(x a:D2) (l:B2) (H I:Option D),rest=a.map enc/\x++a=ms/\τ=[some (.tup (ms.map enc)),some (.ref A.length),H,I]/\A'[A.length]?=some (.lst (l.map D.ref))/\ef A' l (x.map aM)/\Gr A A'/\∀t∈l,t≠A.length) ?_ ?_ ?_ _ _ _ ⟨[],ms,[],none,none,rfl,rfl,rfl,aI,trivial,Gr.push,λ_ h=>by cases h⟩
 .intro _ _ _ _
  trivial
 .rintro v rest τ E ⟨x,a,l,H,I,e,j,rfl,h1,F,J,u⟩ Nx Z
  cases a with
  |nil=>cases e
  |cons m a=>
   cases e;have L:=hF m (by rw[<-j];simp);have ln:=pq (m:=m) (by have:=L.deep;omega);have fd:=L.deep;have lt:=F.len;have ld:=cB List.length j;rw[dZ] at ld;rw[aQ] at lt;refine⟨rfl,_,⟨m,"",rfl,ω,η,δ,rfl⟩,λN q2 Y h2=>?_⟩;refine dJ h2 ?_;refine gb (f:=λd=>match d with|.tup [_,y]=>y|d=>d) h2 _ _ (λd hd=>?_) (by simp[o8];omega) ?_
   .obtain⟨p,hp,rfl⟩:=aS.mp hd
    exact⟨[.str p.1,.str p.2],rfl,λQ hQ=>hQ⟩
   have en:((kN m "").map iG).map (λd=>match d with|.tup [_,y]=>y|d=>d)=m.names.map D.str:=by
    rw[bH,<-nu m "",bH];rfl
   rw[d_,en];have h3:(N++[C.lst (m.names.map D.str)])[N.length]?=some (.lst (m.names.map D.str)):=aI;have O:Gr E (N++[C.lst (m.names.map D.str)]):=Y.trans Gr.push;have G8:=Y.len;have la:=dB h1;refine⟨gf (O.get h1),rfl,m,1,1,rfl,L.arms,ω,δ,δ,δ,δ,δ,λz q4 G h4=>?_⟩;refine Sn (G.get h3) h4 ?_;have es:m.sh (((1:Int):Rat)/((1:Int):Rat))=(b6 m "" 1).map (·.2.2):=by
    rw[uL,(η:((1:Int):Rat)/((1:Int):Rat)=1)]
   have ez:((m.names.map D.str).zip ((m.sh (((1:Int):Rat)/((1:Int):Rat))).map fq)).map (λp=>D.tup [p.1,p.2])=(b6 m "" 1).map nA:=by
    rw[es,<-pN m "" 1,bH,bH,List.zip_map',bH];rfl
   rw[ez];have e5:=aI (A:=z) (c:=C.lst ((b6 m "" 1).map nA));refine Aj e5 (BP _) (by simp[pM];omega) ?_;have ek:bB (aM m)=nD (((b6 m "" 1).map λp=>(p.2.1,fq p.2.2)).map λp=>((Sum.inr p.1:Key),p.2)):=Bm _ [];rw[<-ek];have S:=aI (A:=z++[C.lst ((b6 m "" 1).map nA)]) (c:=C.dct (bB (aM m)));have r:Gr E (z++[C.lst ((b6 m "" 1).map nA)]++[C.dct (bB (aM m))]):=((O.trans G).trans Gr.push).trans Gr.push;have l4:=G.len;have lg:E.length<=z.length:=(O.trans G).len;refine ou (r.get h1) (by simp;omega) ?_;refine Z _ _ ⟨x++[m],a,l++[(z++[C.lst ((b6 m "" 1).map nA)]).length],_,_,rfl,by simpa using j,rfl,?_,?_,(J.trans r).set (aJ _),λt U=>?_⟩
   .rw[fy (dB (r.get h1)),di]
    rfl
   .rw[di]
    have key:∀{l:B2} {Ts:Bz} {A B:Ar},ef A l Ts->(∀t∈l,∀c,A[t]?=some c->B[t]?=some c)->ef B l Ts:=by
     intro l;induction l with
     |nil=>intro Ts A B h _;cases Ts with|nil=>trivial|cons _ _=>exact h.elim
     |cons t l ih=>intro Ts A B h k;cases Ts with|nil=>exact h.elim|cons T Ts=>exact⟨k t (bA ..) _ h.1,ih h.2 λt' V=>k t' (bz _ V)⟩
    refine ef.snoc ?_ (key (F.gr r) λt U c hc=>?_)
    .rw[fH (by simp;omega)]
     exact S
    .rw[fH (Ne.symm (u t U))]
     exact hc
   .rcases cu.mp U with h|h
    .exact u t h
    .rw[bS.mp h]
     simp;omega
 .rintro τ E ⟨x,a,l,H,I,e,j,rfl,h1,F,J,u⟩
  cases a with
  |cons _ _=>cases e
  |nil=>
   have j:x=ms:=by simpa using j
   subst j;exact q _ _ J ⟨l,h1,F⟩ (aJ _)
theorem S8{A:Ar}{p q:Nat}{xs:Bi}{R:DK}(h:A[p]?=some (.lst xs))(h':A[q]?=some (.lst xs))(d:fP xs=true)(hl:canLayAll0 (bG xs)=true)(hd:depthAll (bG xs)<=60)(k:R (.bl false) A):fD true (.ref p) (.ref q) A R:=by
 unfold fD;have a:cH A (.ref p)=.list (bG xs):=by unfold cH;simp only[h]
 have b:cH A (.ref q)=.list (bG xs):=by unfold cH;simp only[h']
 have c:canLay0 (.list (bG xs))=true:=by simpa[canLay0] using hl
 refine⟨?_,?_,?_,?_,?_,?_⟩
 .unfold iH;simp only[h];exact d
 .unfold iH;simp only[h'];exact d
 .rw[a];exact c
 .rw[b];exact c
 .rw[a,b];simp only[PyData.depth];omega
 .rw[a,b,C4 _ c]
  exact k
structure dm(Ts:Bz)(s:Str)(F:Tb):Prop where
 nd:(ai F).Nodup
 st:(s,(1:Rat))∈F
 sub:∀n∈ai F,n∈N5
 snd:∀p∈F,∃l,ee Ts s l p.1/\p.2=cO Ts l
 sm:∀(i:Nat) p,F[i]? =some p->0<p.2/\(rf p.2).1<=26244 ^ i/\(rf p.2).2<=26244 ^ i
def jN(Ts:Bz)(F:Tb):Prop:=∀n∈ai F,∀b,lN Ts n b->b∈ai F
theorem dm.len{Ts:Bz}{s:Str}{F:Tb}(h:dm Ts s F):F.length<=5:=by
 have:=j5 (ai F) N5 h.nd h.sub;simpa[ai,N5] using this
theorem uM{F:Tb}(h:(ai F).Nodup){p:Str×Rat}(b:p∈F):aB F p.1=p.2:=by
 have h1:=find_some (T:=F) (n:=p.1);rw[dc (show p.1∈F.map (·.1) from dN b)] at h1;obtain⟨q,a⟩:=pQ.mp h1;unfold aB;rw[a];have h2:=qd a;have e:q=p:=Ba h q (jJ a) p b (fY h2);exact cB (·.2) e
theorem o6{F:Tb}{n:Str}(h:n∈ai F):∃x,(n,x)∈F:=by
 obtain⟨p,a,rfl⟩:=aS.mp h;exact⟨p.2,a⟩
theorem dm.pos{Ts:Bz}{s:Str}{F:Tb}(h:dm Ts s F){p:Str×Rat}(d:p∈F):0<p.2/\(rf p.2).1<=474373168346071296/\(rf p.2).2<=474373168346071296:=by
 obtain⟨i,hi,e⟩:=jm d;have l:=h.len;obtain⟨a,b,c⟩:=h.sm i p (by rw[a_ hi,e]);have q:=pJ (c:=26244) δ (ω:i<=4);have f:((26244:Nat):Int) ^ 4=474373168346071296:=δ
 rw[f] at q;have q:(26244:Int) ^ i<=474373168346071296:=q;exact⟨a,ω,ω⟩
theorem dm.start{Ts:Bz}{s:Str}(h:s∈N5):dm Ts s [(s,1)]:=by
 refine⟨by simp[ai],θ,λn b=>?_,λp a=>?_,λi p a=>?_⟩
 .have:n=s:=by simpa[ai] using b
  rw[this];exact h
 .rw[bS.mp a]
  exact⟨[],.nil _,rfl⟩
 .cases i with
  |zero=>
   cases a;show 0<(1:Rat)/\(rf 1).1<=_/\(rf 1).2<=_;rw[uH];exact⟨δ,δ,δ⟩
  |succ i=>simp at a
theorem Vl{T:Tb}{n:Str}{x:Rat}(h:n∉ai T):iI T n x=T++[(n,x)]:=by
 unfold iI;rw[ay];intro z;obtain⟨q,a,e⟩:=nQ.mp z;exact h (by rw[<-fY e];exact dN a)
theorem X4{Ts:Bz}{T:Tb}(c:T∈Ts){n b:Str}(d:n∈ai T)(f:b∈ai T):∃s:bg,cU Ts s/\s.2.1=n/\s.2.2=b/\b8 Ts s=aB T b/aB T n:=by
 obtain⟨i,hi,e⟩:=jm c;have a:Ts[i]?=some T:=by rw[a_ hi,e]
 refine⟨(i,n,b),⟨T,a,d,f⟩,rfl,rfl,?_⟩;unfold b8;rw[iZ a,iZ a]
theorem dm.add{ms:D2}(hF:∀m∈ms,Fw m){s:Str}{F T:Tb}(h:dm (ms.map aM) s F)(q:T∈ms.map aM){n b:Str}{x:Rat}(r:(n,x)∈F)(D:n∈ai T)(t:b∈ai T)(f:b∉ai F):dm (ms.map aM) s (F++[(b,x*(aB T b/aB T n))]):=by
 obtain⟨st,k1,k2,k3,u⟩:=X4 q D t;obtain⟨g,p2,v⟩:=KJ hF k1;rw[u] at g p2 v;refine⟨?_,mK _ h.st,λm o=>?_,λp hp=>?_,λi p hp=>?_⟩
 .unfold ai
  rw[di];refine nK.mpr ⟨h.nd,θ,λy E z hz=>?_⟩;have:z=b:=by simpa using hz
  rw[this];rintro rfl;exact f E
 .have:m∈ai F\/m=b:=by simpa[ai] using o
  rcases this with o|rfl
  .exact h.sub m o
  .obtain⟨w,d,rfl⟩:=aS.mp q
   exact(hF w d).sub _ (((mE (hF w d).hl).2.1 _).mp t)
 .rcases cu.mp hp with hp|hp
  .exact h.snd p hp
  .rw[bS.mp hp]
   obtain⟨l,c,e⟩:=h.snd _ r;refine⟨l++[st],.snoc (by rw[k2];exact c) k1 k3,?_⟩;rw[qx,u,<-e]
 .by_cases hi:i<F.length
  .rw[gW hi] at hp
   exact h.sm i p hp
  .rw[qf ω] at hp
   have G:i=F.length:=by
    cases e:i - F.length with
    |zero=>omega
    |succ k=>rw[e] at hp;simp at hp
   subst G;simp at hp;subst hp;obtain⟨j,H,I⟩:=jm r;obtain⟨A,J,K⟩:=h.sm j (n,x) (by rw[a_ H,I]);have L:=cW A;have xd:=ck x;have B:=cW g;have C:=ck (aB T b/aB T n);obtain⟨N,O⟩:=uG (a:=(rf x).1*(rf (aB T b/aB T n)).1) (b:=(rf x).2*(rf (aB T b/aB T n)).2) (cT L B) (cT xd C);rw[Ca] at N O;have z:(0:Int)<=26244 ^ j:=mL δ;have P:(rf x).1*(rf (aB T b/aB T n)).1<=26244 ^ j*26244:=dH J p2 (dO B) z;have Q:(rf x).2*(rf (aB T b/aB T n)).2<=26244 ^ j*26244:=dH K v (dO C) z;have up:(26244:Int) ^ (j+1)<=26244 ^ F.length:=pJ (c:=26244) δ ω;rw[jn] at up;exact⟨mQ A g,by show(rf (x*_)).1<=_;omega,by show(rf (x*_)).2<=_;omega⟩
theorem MV{Ts:Bz}{F:Tb}(hc:jN Ts F){s:Str}(a:s∈ai F){b:Str}(h:gH Ts s b):b∈ai F:=by
 induction h with
 |refl=>exact a
 |step _ e c=>exact hc _ c _ e
theorem dm.stk{Ts:Bz}{s:Str}{F:Tb}(h:dm Ts s F):s∈ai F:=aS.mpr ⟨_,h.st,rfl⟩
theorem Yk{Ts:Bz}{s:Str}{F a:Tb}{j:Nat}(h:dm Ts s F)(h':dm Ts s a)(hj:jN Ts F\/j+1<=F.length)(sub:∀n∈ai F,n∈ai a)(d:∀T∈Ts,∀n∈ai F,n∈ai T->∀b∈ai T,b∈ai a):jN Ts a\/j+1+1<=a.length:=by
 by_cases hc:jN Ts F
 .left
  intro n f b e;obtain⟨x,hx⟩:=o6 f;obtain⟨l,c,_⟩:=h'.snd _ hx;exact sub _ (MV hc h.stk (.step c.pK e))
 .right
  have:∃n∈ai F,∃b,lN Ts n b/\b∉ai F:=Classical.byContradiction λk=>hc λn f b e=>Classical.byContradiction λz=>k ⟨n,f,b,e,z⟩;obtain⟨n,f,b,⟨T,g,t1,i⟩,m⟩:=this;have l:=j5 (b::ai F) (ai a) (lD.mpr ⟨m,h.nd⟩) λx hx=>by
   rcases bx.mp hx with rfl|hx
   .exact d T g n f t1 _ i
   .exact sub x hx
  simp[ai] at l;rcases hj with hj|hj
  .exact absurd hj hc
  .omega
def sI:Ct:=λds A R _=>∃(ms:D2) (s:Str),ds=[.tup (ms.map enc),.str s]/\ms.length<=6/\(∀m∈ms,Fw m)/\s∈N5/\∀(A':Ar) (q:Nat) (F:Tb),Gr A A'->A'[q]?=some (.dct (bB F))->A.length<=q->dm (ms.map aM) s F->jN (ms.map aM) F->R (.ref q) A'
def DU:Ct:=λds A R _=>∃x y:Rat,ds=[fq x,fq y]/\0<x/\0<y/\(rf x).1<=474373168346071296/\(rf x).2<=474373168346071296/\(rf y).1<=81/\(rf y).2<=324/\∀A',Gr A A'->R (fq (x/y)) A'
theorem Lj{x y z:Rat}(a:0<x)(b:0<y)(hz:0<z):(((rf x).1*(rf y).1*(rf z).2:Int):Rat)/(((rf x).2*(rf y).2*(rf z).1:Int):Rat)=x*(y/z):=by
 have h1:=iO (gR (ck x));have h2:=iO (gR (ck y));have c:=iO (gR (ck z));have d:=iO (gR (cW hz));conv=>rhs;rw[<-iJ x,<-iJ y,<-iJ z]
 rw[gU,gU,gU,gU];grind
theorem AH{a b:Int}(c:0<b):D.tup [.int (rd a b).1,.int (rd a b).2]=fq ((a:Rat)/(b:Rat)):=by
 rw[yg c];rfl
theorem VI{k i:Nat}{v:D}{rest:Bi}(h:v::rest=(fF 0 k).drop i):v=.int ((i:Nat):Int)/\rest=(fF 0 k).drop (i+1)/\i<k:=by
 have l:(fF 0 k).length=k:=by simp[fF]
 have hi:i<k:=by
  have:=cB List.length h;rw[uW,l] at this;simp at this;omega
 rw[nW ω,List.cons.injEq] at h;refine⟨?_,h.2,hi⟩;rw[h.1];simp[fF]
theorem KG{a:Int}(h:a<=2 ^ 80):a<2 ^ 2000:=rM h (rZ (δ:(2 ^ 80:Int)<2 ^ 81) (by
 have:(2:Nat) ^ 81<=2 ^ 2000:=fK δ δ;exact_mod_cast this))
theorem mF{ms:D2}(hF:∀m∈ms,Fw m){T:Tb}(c:T∈ms.map aM){n:Str}(a:n∈ai T):0<aB T n/\(rf (aB T n)).1<=81/\(rf (aB T n)).2<=324:=by
 obtain⟨m,b,rfl⟩:=aS.mp c;have h:=mE (hF m b).hl;rw[h.2.2 n a];exact(hF m b).sh ((h.2.1 n).mp a)
theorem O3(T:TopD K mg "_law_heavy" Jm ue)(E:mg "list"=none)(O:mg "range"=none)(f:av P w K mg base 10 "_law_books" qW (au mg 1 sF))(i:av P w K mg base 1 "_law_least" pH (au mg 2 qq)):av P w K mg base 11 "_law_heavy" ue (au mg 2 sI):=by
 refine bW T V6 λhr hR hx G nd=>⟨_,(aE (dS 2 nd (dL f hr hx (aa (vr 0) af)))
  (aE (dS 3 nd (E7 (vr 1) (cE (aa aj (aa aj af)))))
  (aE (d8 dM rfl (s9 O (aa aj af)) (dG 4 nd) (aD (d8 dM rfl (cj (vr 2)) (dG 5 nd) (aD (d8 dM rfl (cj (ie (qw rfl) qA E lK (aa (vr 3) af))) (dG 6 nd) (aD (d8 dM rfl (cj (ie (qw rfl) qA E lK (aa (vr 5) af))) (dG 7 nd) (aD (bY (PW.pt (Au (Cy G (vr 6) (vr 5)) (Av (uR G (vr 7) (vr 3))))) (aE (Og (dX G (vr 3) (vr 6)) (oO rfl (gK (dG 8 nd) (gK (dG 9 nd) oQ))))
  (aE (dS 10 nd (cE (aa (dQ (dQ (vr 8) (dX G (dX G (vr 5) (vr 7)) aj)) (dX G (dX G (vr 5) (vr 6)) aj)) (aa (dQ (dQ (vr 9) (dX G (dX G (vr 5) (vr 7)) aj)) (dX G (dX G (vr 5) (vr 6)) aj)) af))))
  (aD (Aq G (vr 3) (vr 7) (dL i hr hx (aa (dX G (vr 10) aj) (aa (dX G (vr 10) aj) af))) rfl)))) b_)))))))))
  (aD (aP (vr 3)))))),λds A R h hl=>?_⟩
 obtain⟨ms,st,rfl,h6,hF,hs,q⟩:=h;have hz:(1000:Nat)<=sizeLine:=δ
 refine⟨rfl,ms,rfl,h6,hF,λk qb g1 hB l1=>?_⟩;obtain⟨ts,eb,hD⟩:=hB;have By:=hD.len;rw[aQ] at By;have e1:[((Sum.inr st:Key),D.tup [.int 1,.int 1])]=bB [(st,1)]:=by
  show _=[((Sum.inr st:Key),fq 1)];unfold fq;rw[uH]
 have f2:(k++[C.dct [((Sum.inr st:Key),D.tup [.int 1,.int 1])]])[k.length]?=some (.dct (bB [(st,1)])):=by rw[e1];exact aI
 have g2:Gr k (k++[C.dct [((Sum.inr st:Key),D.tup [.int 1,.int 1])]]):=Gr.push;refine⟨(δ:2<=sizeLine),δ,δ,?_⟩;generalize Qo:(k++[C.dct [((Sum.inr st:Key),D.tup [.int 1,.int 1])]]:Ar)=A2 at f2 g2;have Zk:=dB eb;refine eF (λrest τ A'=>∃(j:Nat) (F:Tb) (x4 x5 x6 H I J d:Option D),j<=6/\rest=(fF 0 6).drop j/\τ=[some (.tup (ms.map enc)),some (.str st),some (.ref qb),some (.ref k.length),x4,x5,x6,H,I,J,d]/\A'[k.length]?=some (.dct (bB F))/\dm (ms.map aM) st F/\(jN (ms.map aM) F\/j+1<=F.length)/\Gr k A') ?_ ?_ ?_ _ _ _ ⟨0,[(st,1)],none,none,none,none,none,none,none,cA _,rfl,rfl,f2,dm.start hs,.inr (aJ _),g2⟩
 .intro _ _ _ _
  trivial
 .rintro v rest τ A3 ⟨j,F,x4,x5,x6,H,I,J,d,hj,e,rfl,tN,Q,hc3,g3⟩ Nx hN
  obtain⟨rfl,rfl,hlt⟩:=VI e;refine dJ (g3.get eb) ?_;refine eF (λrest τ A'=>∃(dn s:Bz) (tm:B2) (o:Tb) (x5 x6 H I J d:Option D),rest=tm.map D.ref/\dn++s=ms.map aM/\ef k tm s/\τ=[some (.tup (ms.map enc)),some (.str st),some (.ref qb),some (.ref k.length),some (.int ((j:Nat):Int)),x5,x6,H,I,J,d]/\A'[k.length]?=some (.dct (bB o))/\dm (ms.map aM) st o/\(∀n∈ai F,n∈ai o)/\(∀T∈dn,∀n∈ai F,n∈ai T->∀b∈ai T,b∈ai o)/\Gr k A') ?_ ?_ ?_ _ _ _ ⟨[],ms.map aM,ts,F,x5,x6,H,I,J,d,rfl,rfl,hD,rfl,tN,Q,λ_ h=>h,λT hT=>(by cases hT),g3⟩
  .rintro rest τ A' ⟨_,_,_,_,_,_,_,_,_,_,_,_,_,_,_,_,_,_,g⟩
   exact g.get eb
  .rintro v rest τ A4 ⟨dn,s,tm,y,y5,y6,y7,y8,y9,Ll,e4,L,oW,rfl,S,U,wB,AS,g4⟩ Ds AQ
   cases tm with
   |nil=>cases e4
   |cons t tm=>
   cases e4;obtain⟨T,more',rfl,ht,AO⟩:=oW.cons;have hT:T∈ms.map aM:=by rw[<-L];simp
   have tok:=(nh h6 hF).tok T hT;have Zd:=dB ht;refine qU S (qQ y) (by have:=U.len;simp[ai];omega) ?_;have c5:(A4++[C.lst ((ai y).map D.str)])[A4.length]?=some (.lst ((ai y).map D.str)):=aI;have Y8:=g4.len;have g5:Gr A4 (A4++[C.lst ((ai y).map D.str)]):=Gr.push;refine dJ c5 ?_;refine eF (λrest τ A'=>∃(M a:Ap) (o:Tb) (x6 H I J d:Option D),rest=a.map D.str/\M++a=ai y/\τ=[some (.tup (ms.map enc)),some (.str st),some (.ref qb),some (.ref k.length),some (.int ((j:Nat):Int)),some (.ref t),x6,H,I,J,d]/\A'[k.length]?=some (.dct (bB o))/\dm (ms.map aM) st o/\(∀n∈ai y,n∈ai o)/\(∀n∈M,n∈ai T->∀b∈ai T,b∈ai o)/\Gr k A'/\A'[A4.length]?=some (.lst ((ai y).map D.str))) ?_ ?_ ?_ _ _ _ ⟨[],ai y,y,y6,y7,y8,y9,Ll,rfl,rfl,rfl,g5.get S,U,λ_ h=>h,λn hn=>(by cases hn),g4.trans g5,c5⟩
   .rintro rest τ A' ⟨_,_,_,_,_,_,_,_,_,_,_,_,_,_,_,_,h⟩
    exact h
   .rintro v rest τ A6 ⟨M,a,F6,z6,z7,z8,z9,Lm,e6,p,rfl,wz,AW,V,AU,g6,hc6⟩ YS Qw
    cases a with
    |nil=>cases e6
    |cons n a=>
    cases e6;have QL:n∈ai y:=by rw[<-p];simp
    have QT:=g6.get ht;have l6:=dB hc6;refine qU QT (qQ T) (by have:=tok.len;simp[ai];omega) ?_;have c7:(A6++[C.lst ((ai T).map D.str)])[A6.length]?=some (.lst ((ai T).map D.str)):=aI;have g7:Gr A6 (A6++[C.lst ((ai T).map D.str)]):=Gr.push;refine dJ c7 ?_;refine eF (λrest τ A'=>∃(N c:Ap) (o:Tb) (H I J d:Option D),rest=c.map D.str/\N++c=ai T/\τ=[some (.tup (ms.map enc)),some (.str st),some (.ref qb),some (.ref k.length),some (.int ((j:Nat):Int)),some (.ref t),some (.str n),H,I,J,d]/\A'[k.length]?=some (.dct (bB o))/\dm (ms.map aM) st o/\(∀m∈ai F6,m∈ai o)/\(n∈ai T->∀b∈N,b∈ai o)/\Gr k A'/\A'[A4.length]?=some (.lst ((ai y).map D.str))/\A'[A6.length]?=some (.lst ((ai T).map D.str))) ?_ ?_ ?_ _ _ _ ⟨[],ai T,F6,z7,z8,z9,Lm,rfl,rfl,rfl,g7.get wz,AW,λ_ h=>h,λ_ b hb=>(by cases hb),g6.trans g7,g7.get hc6,c7⟩
    .rintro rest τ A' ⟨_,_,_,_,_,_,_,_,_,_,_,_,_,_,_,_,h⟩
     exact h
    .rintro v rest τ A8 ⟨N,c,Z,w7,w8,w9,Yz,e8,r,rfl,z,u,W,AV,g8,X,wA⟩ L_ Qx
     cases c with
     |nil=>cases e8
     |cons b c=>
     cases e8;have wu:b∈ai T:=by rw[<-r];simp
     have Y:=g8.get ht;have step:∀(H I J d:Option D) (o:Tb) (A':Ar) (bX:bQ),bX=[some (.tup (ms.map enc)),some (.str st),some (.ref qb),some (.ref k.length),some (.int ((j:Nat):Int)),some (.ref t),some (.str n),H,I,J,d]->A'[k.length]?=some (.dct (bB o))->dm (ms.map aM) st o->(∀m∈ai Z,m∈ai o)->(n∈ai T->b∈ai o)->Gr k A'->A'[A4.length]?=some (.lst ((ai y).map D.str))->A'[A6.length]?=some (.lst ((ai T).map D.str))->L_ bX A':=λH I J d o A' bX AY k1 k2 k3 k4 k5 k6 k7=>
      Qx _ _ ⟨N++[b],c,o,H,I,J,d,rfl,by simpa using r,AY,k1,k2,λm hm=>k3 m (W m hm),λhn b' hb'=>by
       rcases cu.mp hb' with h'|h'
       .exact k3 _ (AV hn b' h')
       .rw[bS.mp h'];exact k4 hn,k5,k6,k7⟩
     refine oY Y rfl ?_;rw[ay cF,wj];refine cD (λc1=>?_) (λc1=>step _ _ _ _ Z _ _ rfl z u (λ_ h=>h) (λhn=>absurd hn c1) g8 X wA);refine oY z rfl ?_;rw[aC rfl,wj];refine cN (λc2=>?_) (λc2=>step _ _ _ _ Z _ _ rfl z u (λ_ h=>h) (λ_=>c2) g8 X wA);have GH:n∈ai Z:=W n (V n QL);obtain⟨x,AX⟩:=o6 GH;have ex:aB Z n=x:=uM u.nd AX;obtain⟨xp,xa,xb⟩:=u.pos AX;obtain⟨bp,ba,bb⟩:=mF hF hT wu;obtain⟨np,na,nb⟩:=mF hF hT c1;have x1:=cW xp;have x2:=ck x;have b1:=cW bp;have b2:=ck (aB T b);have n1:=cW np;have n2:=ck (aB T n);refine e9 z rfl (by rw[iF GH,ex]) ?_;have l8:=u.len;have m1:(rf x).1*(rf (aB T b)).1<=474373168346071296*81:=dH xa ba (dO b1) δ;have m2:(rf x).1*(rf (aB T b)).1*(rf (aB T n)).2<=474373168346071296*81*324:=dH m1 nb (dO n2) δ;have k1:0<(rf x).1*(rf (aB T b)).1*(rf (aB T n)).2:=cT (cT x1 b1) n2;have k2:0<(rf x).2*(rf (aB T b)).2*(rf (aB T n)).1:=cT (cT x2 b2) n1;refine⟨rfl,e9 Y rfl (iF wu) ⟨.inr ⟨ω,ω⟩,e9 Y rfl (iF c1) ⟨.inr ⟨ω,ω⟩,e9 Y rfl (iF wu) ⟨.inr ⟨ω,ω⟩,e9 Y rfl (iF c1) ⟨.inr ⟨ω,ω⟩,(δ:2<=sizeLine),?_⟩⟩⟩⟩⟩;refine⟨rfl,_,⟨(rf x).1*(rf (aB T b)).1*(rf (aB T n)).2,(rf x).2*(rf (aB T b)).2*(rf (aB T n)).1,rfl,k1,k2,KG ω,rfl⟩,λA9 g9=>?_⟩;have GG:=g9.get z;refine B3 GG rfl (by unfold bB;rw[aQ];omega) ?_;have ek:cP (bB Z) (Sum.inr b) (D.tup [.int (rd ((rf x).1*(rf (aB T b)).1*(rf (aB T n)).2) ((rf x).2*(rf (aB T b)).2*(rf (aB T n)).1)).1,.int (rd ((rf x).1*(rf (aB T b)).1*(rf (aB T n)).2) ((rf x).2*(rf (aB T b)).2*(rf (aB T n)).1)).2])=bB (Z++[(b,x*(aB T b/aB T n))]):=by
      rw[AH k2,Lj xp bp np,<-G7,Vl c2]
     rw[ek];refine step _ _ _ _ (Z++[(b,x*(aB T b/aB T n))]) _ _ rfl (fy (dB GG)) (u.add hF hT AX c1 wu c2) (λm hm=>by unfold ai at*;rw[di];exact mK _ hm) (λ_=>by unfold ai;rw[di];exact iy _ θ) ((g8.trans g9).set (aJ _)) ?_ ?_
     .have:=dB S
      rw[fH ω];exact g9.get X
     .have:=dB wz
      rw[fH ω];exact g9.get wA
    .rintro τ A8 ⟨N,c,Z,w7,w8,w9,Yz,e8,r,rfl,z,u,W,AV,g8,X,wA⟩
     cases c with
     |cons _ _=>cases e8
     |nil=>
      have r:N=ai T:=by simpa using r
      subst r;exact Qw _ _ ⟨M++[n],a,Z,_,_,_,_,_,rfl,by simpa using p,rfl,z,u,λm hm=>W m (V m hm),λn' hn' B b hb=>by
       rcases cu.mp hn' with h'|h'
       .exact W _ (AU n' h' B b hb)
       .rw[bS.mp h'] at B
        exact AV B b hb,g8,X⟩
   .rintro τ A6 ⟨M,a,F6,z6,z7,z8,z9,Lm,e6,p,rfl,wz,AW,V,AU,g6,hc6⟩
    cases a with
    |cons _ _=>cases e6
    |nil=>
     have p:M=ai y:=by simpa using p
     subst p;exact AQ _ _ ⟨dn++[T],more',tm,F6,_,_,_,_,_,_,rfl,by simpa using L,AO,rfl,wz,AW,λm hm=>V m (wB m hm),λT' oX n hn B b hb=>by
      rcases cu.mp oX with h'|h'
      .exact V _ (AS T' h' n hn B b hb)
      .rw[bS.mp h'] at B hb
       exact AU n (wB n hn) B b hb,g6⟩
  .rintro τ A4 ⟨dn,s,tm,y,y5,y6,y7,y8,y9,Ll,e4,L,oW,rfl,S,U,wB,AS,g4⟩
   cases tm with
   |cons _ _=>cases e4
   |nil=>
    cases s with
    |cons _ _=>exact oW.elim
    |nil=>
     have L:dn=ms.map aM:=by simpa using L
     subst L;exact hN _ _ ⟨j+1,y,_,_,_,_,_,_,_,ω,rfl,rfl,S,U,Yk Q U hc3 wB AS,g4⟩
 .rintro τ A3 ⟨j,F,x4,x5,x6,H,I,J,d,hj,e,rfl,tN,Q,hc3,g3⟩
  have YY:j=6:=by
   have l:(fF 0 6).length=6:=by simp[fF]
   have:=cB List.length e;rw[uW,l] at this;simp at this;omega
  have l5:=Q.len;refine q _ _ F (g1.trans g3) tN g1.len Q ?_;rcases hc3 with h|h
  .exact h
  .omega
theorem PB(T:TopD K mg "_law_ratio" Ju xw)(a:av P w K mg base 1 "_law_least" pH (au mg 2 qq)):av P w K mg base 2 "_law_ratio" xw (au mg 2 DU):=by
 refine bW T Wb λf m g b nd=>⟨_,(aD (aP (dL a f g (aa (dQ (dX b (vr 0) aj) (dX b (vr 1) aj)) (aa (dQ (dX b (vr 0) aj) (dX b (vr 1) aj)) af))))),λds A R h hl=>?_⟩;obtain⟨x,y,rfl,c,d,i,n,o,j,q⟩:=h;have a1:=cW c;have a2:=ck x;have k:=cW d;have e:=ck y;have p:(rf x).1*(rf y).2<=474373168346071296*324:=dH i j (dO e) δ;have k2:0<(rf x).2*(rf y).1:=cT a2 k;refine⟨.inr ⟨ω,ω⟩,.inr ⟨ω,ω⟩,rfl,_,⟨(rf x).1*(rf y).2,(rf x).2*(rf y).1,rfl,cT a1 e,k2,KG ω,rfl⟩,λr l=>?_⟩;rw[AH k2,<-vV c d];exact q _ l
def sC(Ts:Bz)(F:Tb):Prop:=∀T∈Ts,∀a∈ai T,∀b∈ai T,a∈ai F->b∈ai F->aB F a*aB T b=aB F b*aB T a
theorem F4{α:Type}{p q:α->Bool}:∀{l:List α},(∀x∈l,p x=q x)->l.find? p=l.find? q
 |[],_=>rfl
 |x::l,h=>by
  rw[lM,lM,h x (bA ..),F4 λy a=>h y (bz _ a)]
theorem dm.val{Ts:Bz}(d:∀T∈Ts,h_ T){w:Str->Rat}(f:Cs Ts w){s:Str}{F:Tb}(h:dm Ts s F){a:Str}(g:a∈ai F):aB F a*w s=w a:=by
 obtain⟨x,b⟩:=o6 g;obtain⟨l,c,e⟩:=h.snd _ b;rw[uM h.nd b];show x*w s=w a;rw[show x=cO Ts l from e];exact vJ d f c
theorem Qe{Ts:Bz}(d:∀T∈Ts,h_ T){w:Str->Rat}(c:Cs Ts w){s:Str}{F:Tb}(h:dm Ts s F):sC Ts F:=λT e a f b g i j=>by
 have k:=h.val d c i;have l:=h.val d c j;have m:=c.eq T e a f b g;have p:=iU (c.pos s);grind
theorem M7{Ts:Bz}(h:∀T∈Ts,∃s F,s∈ai T/\dm Ts s F/\jN Ts F/\sC Ts F):∃w,Cs Ts w:=by
 have hc:∀T:Tb,∃F:Tb,T∈Ts->∃s,s∈ai T/\dm Ts s F/\jN Ts F/\sC Ts F:=λT=>by
  by_cases d:T∈Ts
  .obtain⟨s,F,k⟩:=h T d
   exact⟨F,λ_=>⟨s,k⟩⟩
  .exact⟨[],λz=>absurd z d⟩
 obtain⟨f,j⟩:=Classical.axiomOfChoice hc;refine⟨λn=>match Ts.find? (λT=>decide (n∈ai (f T))) with|some T=>aB (f T) n|none=>1,λn=>?_,λT d a i b l=>?_⟩
 .cases e:Ts.find? (λT=>decide (n∈ai (f T))) with
  |none=>exact(by decide:(0:Rat)<1)
  |some T=>
   have h1:=qd e;have h1:n∈ai (f T):=fY h1;obtain⟨s,_,g,_⟩:=j T (jJ e);obtain⟨x,p⟩:=o6 h1;show 0<aB (f T) n;rw[uM g.nd p];exact(g.pos p).1
 .have same:Ts.find? (λT=>decide (b∈ai (f T)))=Ts.find? (λT=>decide (a∈ai (f T))):=F4 λm o=>by
   obtain⟨s,_,g,c,_⟩:=j m o;have:b∈ai (f m)↔a∈ai (f m):=⟨λz=>c b z a ⟨T,d,l,i⟩,λz=>c a z b ⟨T,d,i,l⟩⟩;simp[this]
  show(match Ts.find? (λT=>decide (a∈ai (f T))) with|some T=>aB (f T) a|none=>1)*_=(match Ts.find? (λT=>decide (b∈ai (f T))) with|some T=>aB (f T) b|none=>1)*_;rw[same];cases e:Ts.find? (λT=>decide (a∈ai (f T))) with
  |none=>
   obtain⟨s,q,g,c,_⟩:=j T d;have:=qc.mp e T d;exact absurd (dc (c s g.stk a ⟨T,d,q,i⟩)) this
  |some T0=>
   have h1:=qd e;have h1:a∈ai (f T0):=fY h1;obtain⟨s,_,g,c,r⟩:=j T0 (jJ e);exact r T d a i b l h1 (c a h1 b ⟨T,d,i,l⟩)
theorem z_{α:Type}{k:Option Nat}{fr:bQ}{tt:f7}{te:aO}{d:Ar->Prop}{R:Bi->Ar->Prop}(g:α->D)(p:α->Bool)(f:α->D):∀(xs:List α) (ys:Bi) (A:Ar),(∀a,Gr A a->d a)->(∀x∈xs,∀a,Gr A a->∃vs,rE k (g x)=some vs/\(∀Q:Bool->Ar->Prop,(∀b,Gr a b->Q (p x) b)->tt (vs.map some++fr) a Q)/\(p x=true->∀b,Gr a b->∀Q:DK,(∀e,Gr b e->Q (f x) e)->te (vs.map some++fr) b Q))->ys.length+xs.length<=sizeLine->(∀a,Gr A a->R (ys++(xs.filter p).map f) a)->lV d k fr tt te R (xs.map g) ys A
 |[],ys,A,hc,_,_,h=>⟨hc A Gr.refl,by simpa using h A Gr.refl⟩
 |x::xs,ys,A,hc,i,hl,h=>by
  obtain⟨vs,n,o,q⟩:=i x (bA ..) A Gr.refl;refine⟨hc A Gr.refl,?_⟩;rw[n];simp at hl;refine o _ λb c=>?_;cases j:p x with
  |true=>
   rw[List.filter_cons_of_pos j] at h;exact q j b c _ λe l=>⟨ω,z_ g p f xs (ys++[f x]) e (λa z=>hc a ((c.trans l).trans z)) (λy m a z=>i y (bz _ m) a ((c.trans l).trans z)) (by simp;omega) λa z=>by simpa using h a ((c.trans l).trans z)⟩
  |false=>
   rw[List.filter_cons_of_neg (by simp[j])] at h;exact z_ g p f xs ys b (λa z=>hc a (c.trans z)) (λy m a z=>i y (bz _ m) a (c.trans z)) ω λa z=>h a (c.trans z)
theorem Gf{x:Rat}:Dk 1 (fq x):=Od Fv Fv
theorem K9:∀xs:Fs,bG (xs.map fq)=xs.map λx=>toQ (fq x)
 |[]=>rfl
 |x::xs=>by simp[bG,K9 xs]
theorem MY{x:Rat}{xs:Fs}:(bG ((x::xs).map fq)).countP (λz=>PyData.eqv z (toQ (fq x)))=(x::xs).length↔∀y∈x::xs,y=x:=by
 rw[K9,countP_map,List.countP_eq_length];constructor
 .intro h y a
  have:=h y a;rw[Function.comp_apply,Az] at this;exact fY this
 .intro h y a
  rw[Function.comp_apply,Az];exact dc (h y a)
def Du:Ct:=λds A R _=>∃ms:D2,ds=[.tup (ms.map enc)]/\ms.length<=6/\(∀m∈ms,Fw m)/\∀b A',(b=true↔∃w,Cs (ms.map aM) w)->Gr A A'->R (.bl b) A'
theorem OL(T:TopD K mg "_law_agree" Jg xh)(E:mg "list"=none)(W:mg "len"=none)(l:av P w K mg base 10 "_law_books" qW (au mg 1 sF))(m:av P w K mg base 11 "_law_heavy" ue (au mg 2 sI))(o:av P w K mg base 2 "_law_ratio" xw (au mg 2 DU)):av P w K mg base 12 "_law_agree" xh (au mg 1 Du):=by
 refine bW T V1 λhr hR hx S nd=>⟨_,(aE (dS 1 nd (dL l hr hx (aa (vr 0) af)))
  (aE (d8 dM rfl (cj (vr 1)) (dG 2 nd) (aE (dS 3 nd (dL m hr hx (aa (vr 0) (aa (dX S (ie (qw rfl) qA E lK (aa (vr 2) af)) aj) af))))
  (aD (d8 dM rfl (cj (vr 1)) (dG 4 nd) (aE (FA none (own:=[κc]) (aw:=[κm,κi]) (ix:=[3,4]) (i:=5) nd rfl (by first|exact Or.inl rfl|exact Or.inr rfl) rfl (cj (ie (qw rfl) qA E lK (aa (vr 4) af))) (λc=>(pG 0 (η:([κc,κm,κi]:Ap).Nodup))) (λc=>(Cy S (vr 0) (vr 1))) (λc=>(dL o hr mj (aa (dX S (vr 1) (vr 0)) (aa (dX S (vr 2) (vr 0)) af)))))
  (aD (bY (PW.pt (Au (jG S (vr 5) (dI af)) (Av (jG S (gJ gQ PySem.F.slot_list_count PySem.F.type_list_count (SR S) Nr (vr 5) (aa (dX S (vr 5) aj) af)) (dz gI a3 W gS (aa (vr 5) af)))))) (aD (aP fL)) b_)))))))
  (aD (aP fL)))),λds A R h hl=>?_⟩
 obtain⟨ms,rfl,h6,hF,q⟩:=h;have hz:(1000:Nat)<=sizeLine:=δ
 have ok:=nh h6 hF;refine⟨rfl,ms,rfl,h6,hF,λA1 qb g1 hB l1=>?_⟩;obtain⟨ts,eb,hD⟩:=hB;refine dJ eb ?_;refine eF (λrest τ A'=>∃(dn u:Bz) (U:B2) (x2 x3 x4 J:Option D),rest=U.map D.ref/\dn++u=ms.map aM/\ef A1 U u/\τ=[some (.tup (ms.map enc)),some (.ref qb),x2,x3,x4,J]/\(∀T∈dn,∃s F,s∈ai T/\dm (ms.map aM) s F/\jN (ms.map aM) F/\sC (ms.map aM) F)/\Gr A1 A') ?_ ?_ ?_ _ _ _ ⟨[],ms.map aM,ts,none,none,none,none,rfl,rfl,hD,rfl,λ_ h=>(by cases h),Gr.refl⟩
 .rintro rest τ A' ⟨_,_,_,_,_,_,_,_,_,_,_,_,g⟩
  exact g.get eb
 .rintro v rest τ A2 ⟨dn,u,U,x2,x3,x4,J,e,G,X,rfl,Y,g2⟩ Nx hN
  cases U with
  |nil=>cases e
  |cons t U=>
  cases e;obtain⟨T0,Z,rfl,ht,Qs⟩:=X.cons;have GD:T0∈ms.map aM:=by rw[<-G];simp
  have tok:=ok.tok T0 GD;have lT:(ai T0).length<=32:=by have:=tok.len;simp[ai];omega
  obtain⟨s0,r0,es⟩:∃s0 r0,ai T0=s0::r0:=by
   cases ek:ai T0 with
   |nil=>exact absurd (C2.mp ek) tok.ne
   |cons s0 r0=>exact⟨s0,r0,rfl⟩
  have hs0:s0∈ai T0:=by rw[es];simp
  refine qU (g2.get ht) (qQ T0) ω ?_;refine jg aI (v:=.str s0) (by rw[es];exact mY (j:=0) rfl) ?_;refine⟨rfl,ms,s0,rfl,h6,hF,ok.sub T0 GD s0 hs0,λA3 q3 F g3 tN l3 hv hcl=>?_⟩;have P9:Gr A2 A3:=Gr.push.trans g3;have I:=g2.trans P9;have lF:=hv.len;refine dJ (I.get eb) ?_;refine eF (λrest τ A'=>∃(H f:Bz) (B:B2) (x4 J:Option D),rest=B.map D.ref/\H++f=ms.map aM/\ef A1 B f/\τ=[some (.tup (ms.map enc)),some (.ref qb),some (.ref t),some (.ref q3),x4,J]/\sC H F/\Gr A3 A') ?_ ?_ ?_ _ _ _ ⟨[],ms.map aM,ts,x4,J,rfl,rfl,hD,rfl,λ_ h=>(by cases h),Gr.refl⟩
  .rintro rest τ A' ⟨_,_,_,_,_,_,_,_,_,_,g⟩
   exact g.get (I.get eb)
  .rintro v rest τ V ⟨H,f,B,y4,y5,e4,p,oW,rfl,hG,g4⟩ Ds AQ
   cases B with
   |nil=>cases e4
   |cons t' B=>
   cases e4;obtain⟨T,L,rfl,ht',AO⟩:=oW.cons;have hT:T∈ms.map aM:=by rw[<-p];simp
   have tok':=ok.tok T hT;have Y9:(ai T).length<=32:=by have:=tok'.len;simp[ai];omega
   have GL:=(I.trans g4).get ht';have GF:=g4.get tN;refine qU GL (qQ T) ω ?_;have c5:(V++[C.lst ((ai T).map D.str)])[V.length]?=some (.lst ((ai T).map D.str)):=aI;have AK:Gr V (V++[C.lst ((ai T).map D.str)]):=Gr.push;refine dJ c5 ?_;refine z_ D.str (λn=>decide (n∈ai F)) (λn=>fq (aB F n/aB T n)) (ai T) [] _ (λA' g=>g.get c5) (λn hn A6 g6=>?_) (by simp;omega) (λA6 g6=>?_)
   .refine⟨[.str n],rfl,λQ hQ=>?_,λhp A7 g7 Q hQ=>?_⟩
    .refine oY ((AK.trans g6).get GF) rfl ?_
     rw[ay cF,wj];exact hQ _ Gr.refl
    .have GI:n∈ai F:=fY hp
     obtain⟨x,hx⟩:=o6 GI;obtain⟨k1,k2,k3⟩:=hv.pos hx;obtain⟨k4,k5,k6⟩:=mF hF hT hn;have ex:aB F n=x:=uM hv.nd hx;have M:=(AK.trans g6).trans g7;refine e9 (M.get GF) rfl (iF GI) (e9 (M.get GL) rfl (iF hn) ⟨rfl,_,_,rfl,by rw[ex];exact k1,k4,by rw[ex];exact k2,by rw[ex];exact k3,k5,k6,λA8 g8=>hQ _ g8⟩)
   rw[d_];obtain⟨vs,hvs⟩:∃vs,vs=(ai T).filter (λn=>decide (n∈ai F)):=⟨_,rfl⟩;have N:∀n,n∈vs↔n∈ai T/\n∈ai F:=λn=>by rw[hvs,mem_filter,qa]
   have emap:((ai T).filter (λn=>decide (n∈ai F))).map (λn=>fq (aB F n/aB T n))=(vs.map λn=>aB F n/aB T n).map fq:=by rw[hvs,bH];rfl
   rw[emap];obtain⟨xs,r⟩:∃xs,xs=vs.map λn=>aB F n/aB T n:=⟨_,rfl⟩;rw[<-r];have h7:=aI (A:=A6) (c:=C.lst (xs.map fq));obtain⟨s1,s2,s3⟩:=Ao (k:=1) (xs:=xs.map fq) λd hd=>by
    obtain⟨x,_,rfl⟩:=aS.mp hd;exact Gf
   have M:Gr V (A6++[C.lst (xs.map fq)]):=(AK.trans g6).trans Gr.push;have next:∀(J:Option D) (A':Ar) (bX:bQ),(∀a∈vs,∀b∈vs,aB F a/aB T a=aB F b/aB T b)->bX=[some (.tup (ms.map enc)),some (.ref qb),some (.ref t),some (.ref q3),some (.ref t'),J]->Gr V A'->Ds bX A':=λJ A' bX hall AY g=>AQ _ _ ⟨H++[T],L,B,_,J,rfl,by simpa using p,AO,AY,λT' oX=>by
    rcases cu.mp oX with h'|h'
    .exact hG T' h'
    .rw[bS.mp h']
     intro a ha b hb fa fb;have e1:=hall a ((N a).mpr ⟨ha,fa⟩) b ((N b).mpr ⟨hb,fb⟩);have p1:=iU (mF hF hT ha).1;have p2:=iU (mF hF hT hb).1;grind,g4.trans g⟩
   refine⟨cA _,S7 h7 s1 s2 ?_⟩;have h8:=(Gr.push (T:=[C.lst []])).get h7;have O:Gr V (A6++[C.lst (xs.map fq)]++[C.lst []]):=M.trans Gr.push;generalize (A6++[C.lst (xs.map fq)]++[C.lst []]:Ar)=A8 at h8 O ⊢;cases vs with
   |nil=>
    have:xs=[]:=by rw[r];rfl
    subst this;exact next _ _ _ (λa ha=>(by cases ha)) rfl O
   |cons v0 vr=>
   have r:xs=(aB F v0/aB T v0)::vr.map λn=>aB F n/aB T n:=r;refine cN (λc=>?_) (λc=>absurd c (by rw[r];simp));refine⟨gf h8,jg h8 (v:=fq (aB F v0/aB T v0)) (by rw[r];exact mY (j:=0) rfl) ?_⟩;refine MX h8 s1 rfl s2 Gf.2.1 ω ?_;refine nj h8 ?_;rw[aQ];have key:=MY (x:=aB F v0/aB T v0) (xs:=vr.map λn=>aB F n/aB T n);rw[<-r] at key;refine cN (λc=>?_) (λc=>?_)
   .have nk:¬∀y∈xs,y=aB F v0/aB T v0:=λz=>c (by exact_mod_cast key.mpr z)
    refine q false _ ⟨λz=>(by cases z),λ⟨w0,hw0⟩=>absurd (λy hy=>?_) nk⟩ ((g1.trans I).trans (g4.trans O));rw[r] at hy;obtain⟨a,ha,rfl⟩:∃a,a∈v0::vr/\aB F a/aB T a=y:=by
     rcases bx.mp hy with rfl|hy
     .exact⟨v0,bA ..,rfl⟩
     .obtain⟨a,ha,e⟩:=aS.mp hy
      exact⟨a,bz _ ha,e⟩
    have m1:=(N a).mp ha;have m2:=(N v0).mp (bA ..);have e1:=Qe ok.tok hw0 hv T hT a m1.1 v0 m2.1 m1.2 m2.2;have p1:=iU (mF hF hT m1.1).1;have p2:=iU (mF hF hT m2.1).1;grind
   .have ak:=key.mp (by exact_mod_cast c)
    have D8:∀a∈v0::vr,aB F a/aB T a=aB F v0/aB T v0:=λa ha=>ak _ (by
     rw[r];rcases bx.mp ha with rfl|ha
     .exact bA ..
     .exact bz _ (aS.mpr ⟨a,ha,rfl⟩))
    exact next _ _ _ (λa ha b hb=>(D8 a ha).trans (D8 b hb).symm) rfl O
  .rintro τ V ⟨H,f,B,y4,y5,e4,p,oW,rfl,hG,g4⟩
   cases B with
   |cons _ _=>cases e4
   |nil=>
    cases f with
    |cons _ _=>exact oW.elim
    |nil=>
     have p:H=ms.map aM:=by simpa using p
     subst p;exact hN _ _ ⟨dn++[T0],Z,U,_,_,_,_,rfl,by simpa using G,Qs,rfl,λT' oX=>by
      rcases cu.mp oX with h'|h'
      .exact Y T' h'
      .rw[bS.mp h']
       exact⟨s0,F,hs0,hv,hcl,hG⟩,I.trans g4⟩
 .rintro τ A2 ⟨dn,u,U,x2,x3,x4,J,e,G,X,rfl,Y,g2⟩
  cases U with
  |cons _ _=>cases e
  |nil=>
   cases u with
   |cons _ _=>exact X.elim
   |nil=>
    have G:dn=ms.map aM:=by simpa using G
    subst G;exact q true _ ⟨λ_=>M7 Y,λ_=>rfl⟩ (g1.trans g2)
def A_(Ts:Bz)(i:Nat)(n:Str):Bool:=match Ts[i]? with
 |some T=>decide (n∈ai T)
 |none=>false
def Ci(Ts:Bz)(s:bg):Bool:=A_ Ts s.1 s.2.1&&A_ Ts s.1 s.2.2
theorem uP{Ts:Bz}{s:bg}:Ci Ts s=true↔cU Ts s:=by
 unfold Ci A_ cU;cases e:Ts[s.1]? with
 |none=>simp
 |some T=>simp
def DH:Ct:=λds A R _=>∃r Ts s,ds=[.ref r,bE s]/\iM A r Ts/\cU Ts s/\∀A',Gr A A'->R (.bl true) A'
theorem Yr{A:Ar}{q:Nat}{xs:Bi}(h:A[q]?=some (.lst xs)):kZ A (.ref q)=some "list":=by
 unfold kZ;simp only[h]
theorem GS{A:Ar}{t:Nat}{T:Tb}{n:Str}{R:DK}(h:TabAt A t T)(k:R (.bl (decide (n∈ai T))) A):tP false (.str n) t A R:=by
 have e:(bF (bB T) (Sum.inr n)).isSome=decide (n∈ai T):=by
  rw[wh,isSome_map];exact find_some
 exact GR h rfl (by rw[<-e] at k;exact k)
def sV(ss:List bg):Bool:=decide (ss.map (λs=>s.2.2)=(ss.drop 1++ss.take 1).map (λs=>s.2.1))
def kU(n i:Nat):Nat:=if i=0 then n - 1 else i - 1
theorem Jb{α:Type}{l:List α}{j:Nat}(h:j<l.length):(l.drop 1++l.take 1)[j]?=l[if j+1<l.length then j+1 else 0]? :=by
 by_cases c:j+1<l.length
 .rw[aC c,gW (by simp;omega),List.getElem?_drop,Nat.add_comm]
 .rw[ay c,qf (by simp;omega),uW,(ω:j - (l.length - 1)=0),List.getElem?_take_of_lt δ]
theorem MU{ss:List bg}(h:sV ss=true){i:Nat}(hi:i<ss.length):(ss[kU ss.length i]?).map (λs=>s.2.2)=(ss[i]?).map (λs=>s.2.1):=by
 have h:=fY h;unfold kU;by_cases c:i=0
 .rw[aC c]
  have:=cB (λl=>l[ss.length - 1]?) h;simp only[bM] at this;rw[Jb ω,ay ω] at this;rw[c];exact this
 .rw[ay c]
  have:=cB (λl=>l[i - 1]?) h;simp only[bM] at this;rw[Jb ω,aC ω,(ω:i - 1+1=i)] at this;exact this
theorem Mp{α:Type}{xs:List α}{i:Nat}{v:α}(hi:i<xs.length)(h:xs[kU xs.length i]?=some v):cV xs ((i:Int) - 1)=some v:=by
 unfold kU at h;by_cases c:i=0
 .rw[aC c] at h
  unfold cV j0;rw[ay ω,aC ω,Option.bind_some,(ω:((i:Int) - 1+(xs.length:Nat)).toNat=xs.length - 1)];exact h
 .rw[ay c] at h
  rw[(ω:(i:Int) - 1=((i - 1:Nat):Int))];exact mY h
def DF:Ct:=λds A R _=>∃r ss,ds=[.ref r]/\A[r]?=some (.lst (ss.map bE))/\ss.length<=100/\sV ss=true/\∀A',Gr A A'->R (.bl true) A'
theorem O9(T:TopD K mg "is_step" JR xK)(c:mg "isinstance"=none)(f:mg "tuple"=none)(g:mg "len"=none)(j:mg "str"=none)(d:av P w K mg base 1 "is_number" q8 (au mg 3 vD)):av P w K mg base 2 "is_step" xK (au mg 2 DH):=by
 refine bW T Wx λx F y e nd=>⟨_,(aE (bY (PW.pt (gM (eV (eW (jw kit_tuple c f nU (vr 1)))) (iD (jG e (dz gI a3 g gS (aa (vr 1) af)) aj)))) (aD (aP fL)) b_)
  (aE (bY (eV (eW (dL d x y (aa (dX e (vr 1) aj) (aa aj (aa (oM (dz gI a3 g gS (aa (vr 0) af)) aj) af)))))) (aD (aP fL)) b_)
  (aE (bY (PW.pt (gM (eV (eW (jw wK c j boot_str (dX e (vr 1) aj)))) (iD (eV (eW (jw wK c j boot_str (dX e (vr 1) aj))))))) (aD (aP fL)) b_)
  (aD (aP (m5 (FG e (dX e (vr 1) aj) (dX e (vr 0) (dX e (vr 1) aj))) (qC (FG e (dX e (vr 1) aj) (dX e (vr 0) (dX e (vr 1) aj)))))))))),λds A R h hl=>?_⟩
 obtain⟨r,Ts,⟨i,a,b⟩,rfl,⟨m,l,n⟩,⟨z,k,ca,B⟩,q⟩:=h;have lt:=n.len;have hi:=(bP.mp k).1;have C:(m.map D.ref).length=Ts.length:=by rw[aQ,lt]
 refine nj l ⟨rfl,_,⟨_,_,_,rfl,rfl⟩,λG o=>?_⟩;have E:(decide ((0:Int)<=((i:Nat):Int))&&decide (((i:Nat):Int)<=(((m.map D.ref).length:Nat):Int) - 1))=true:=by
  rw[C,dc (ω:(0:Int)<=(i:Nat)),dc (show((i:Nat):Int)<=((Ts.length:Nat):Int) - 1 by have:i<Ts.length:=hi;omega)];rfl
 rw[E];obtain⟨t,v⟩:∃t,m[i]?=some t:=⟨m[i]'(by have:i<Ts.length:=hi;omega),a_ (by have:i<Ts.length:=hi;omega)⟩;obtain⟨H,p,s⟩:=n.get v;have k:Ts[i]?=some z:=k;rw[k] at p;cases p;have u:cV (m.map D.ref) ((i:Nat):Int)=some (.ref t):=mY (by rw[bM,v];rfl);refine jg (o.get l) u (GS (s.gr o) ?_);rw[dc ca];refine jg (o.get l) u (GS (s.gr o) ?_);rw[dc B];exact q _ o
theorem O4(T:TopD K mg "is_closed" JK xG)(b:mg "all"=none)(a:mg "range"=none)(e:mg "len"=none):av P w K mg base 1 "is_closed" xG (au mg 1 DF):=by
 refine bW T Wq λu v x g nd=>⟨_,(aD (aP (dz (oA rfl) oF b p9 (aa (fk none (own:=["at"]) (aw:=[κp]) (ix:=[0]) rfl (s9 a (aa (dz gI a3 e gS (aa (vr 0) af)) af)) (λc=>(pG 0 (η:(["at",κp]:Ap).Nodup))) (λc=>(lX g (dX g (dX g (vr 1) (oM (vr 0) aj)) aj) (dX g (dX g (vr 1) (vr 0)) aj)))) af)))),λds A R h hl=>?_⟩;obtain⟨r,ss,rfl,h1,l,k,q⟩:=h;have hz:(1000:Nat)<=sizeLine:=δ
 refine nj h1 ?_;refine⟨ω,by rw[aQ];omega,?_⟩;refine gb (f:=λd=>.bl true) trivial _ _ (λd hd=>?_) (by simp[fF];omega) ?_
 .obtain⟨i,hi,rfl⟩:=aS.mp hd
  have hi:=mem_range.mp hi;rw[aQ] at hi;have hi:i<ss.length:=hi;refine⟨[.int (0+(i:Nat))],rfl,λQ m=>?_⟩;have p:kU ss.length i<ss.length:=by unfold kU;split<;>omega
  have n:ss[i]?=some ss[i]:=a_ hi;have o:ss[kU ss.length i]?=some ss[kU ss.length i]:=a_ p;have h2:cV (ss.map bE) ((i:Int) - 1)=some (bE ss[kU ss.length i]):=Mp (by rw[aQ];exact hi) (by rw[aQ,bM,o];rfl);have s:cV (ss.map bE) (i:Int)=some (bE ss[i]):=mY (by rw[bM,n];rfl);have j:=MU k hi;rw[n,o] at j;have j:ss[kU ss.length i].2.2=ss[i].2.1:=Option.some.inj j;rw[(ω:(0:Int)+(i:Nat)=(i:Int))];refine jg h1 h2 (jg h1 s ?_);rw[<-dc j] at m;exact m
 .refine oq aI (lU (λ_=>true) _) ?_
  have t:((fF 0 ((((ss.map bE).length:Nat):Int)).toNat).map λ_=>true).all id=true:=by
   rw[all_map,gp];exact λ_ _=>rfl
  rw[t];exact q _ Gr.push
noncomputable def nE(Ts:Bz)(ss:List bg):Bool:=ss.all (Ci Ts)&&sV ss&& !decide (cO Ts ss=1)
def vC:Ct:=λds A R E=>∃y x,ds=[y,x]/\iV A y=true/\(∀ms,gq y ms->∃q ss,x=.ref q/\A[q]?=some (.lst (ss.map bE))/\ss.length<=45/\nE (ms.map aM) ss=true/\∀A',Gr A A'->R (.bl true) A')/\((¬∃ms,gq y ms)->∀A',Gr A A'->E "NoHall" A')
theorem O6(T:TopD K mg "is_ring" JQ uv)(b:mg "isinstance"=none)(k:mg "list"=none)(l:mg "all"=none)(a:av P w K mg base 13 "hall_shares" pI (au mg 1 sH))(j:av P w K mg base 2 "is_step" xK (au mg 2 DH))(f:av P w K mg base 1 "is_closed" xG (au mg 1 DF))(i:av P w K mg base 4 "comes_to" qZ (au mg 2 vA)):av P w K mg base 14 "is_ring" uv (au mg 2 vC):=by
 refine bW T Ww λt hR v U nd=>⟨_,(aE (dS 2 nd (dL a t v (aa (vr 0) af)))
  (aE (bY (PW.pt (gM (eV (eW (jw RN b k lK (vr 1)))) (iD (eV (eW (dz (oA rfl) oF l p9 (aa (fk none (own:=["step"]) (aw:=[κb]) (ix:=[2]) rfl (cj (vr 1)) (λc=>(pG 0 (η:(["step",κb]:Ap).Nodup))) (λc=>(dL j t mj (aa (vr 1) (aa (vr 0) af))))) af))))))) (aD (aP fL)) b_)
  (aD (aP (m5 (dL f t v (aa (vr 1) af)) (qC (FI U (dL i t v (aa (vr 2) (aa (vr 1) af))) (cE (aa aj (aa aj af)))))))))),λds A R h hl=>?_⟩
 obtain⟨y0,x,rfl,z,h,B⟩:=h;have hz:(1000:Nat)<=sizeLine:=δ
 refine⟨rfl,_,rfl,z,λn I E J u L l1=>?_,λc E u=>B c E u⟩;obtain⟨_,m1,m6,V⟩:=id I;have tok:∀T∈n.map aM,h_ T:=λT W=>by
  obtain⟨m,F,rfl⟩:=aS.mp W;exact(mE (V m F)).1
 obtain⟨M,ss,rfl,X,r,o,q⟩:=h n I;unfold nE at o;rw[gE,gE] at o;obtain⟨⟨Y,Z⟩,em⟩:=o;have N:∀s∈ss,cU (n.map aM) s:=λs h=>uP.mp (gp.mp Y s h);have h1:=u.get X;have e:=Yr h1;conv=>whnf
 rw[e];refine dJ h1 ?_;refine oB (λd=>.bl true) _ _ _ (λA' g=>g.get h1) (λd hd A' g=>?_) (by simp;omega) (λA' g=>?_)
 .obtain⟨st,G,rfl⟩:=aS.mp hd
  exact⟨[bE st],rfl,λQ hQ=>⟨rfl,J,_,st,rfl,L.gr g,N st G,λO H=>hQ O H⟩⟩
 refine oq aI (lU (λ_=>true) _) ?_;have e3:((ss.map bE).map λ_=>true).all id=true:=by
  rw[all_map,gp];exact λ_ _=>rfl
 rw[e3];have S:Gr E (A'++[C.lst ([]++(ss.map bE).map λ_=>D.bl true)]):=g.trans Gr.push;refine⟨rfl,M,ss,rfl,S.get h1,ω,Z,λO H=>?_⟩;have p:=S.trans H;refine⟨rfl,J,M,_,ss,rfl,L.gr p,tok,p.get h1,N,r,λA3 g3=>?_⟩;refine⟨(δ:2<=sizeLine),w4 (y:=1) ?_⟩;rw[em];exact q _ (u.trans (p.trans g3))
theorem ee.mp{Ts:Bz}{a b:Str}{l:List bg}(h:ee Ts a l b):(l.map λs=>s.2.1)++[b]=a::l.map λs=>s.2.2:=by
 induction h with
 |nil=>rfl
 | @snoc b l s h d e c=>
  rw[di,di,nR];show(l.map λs=>s.2.1)++([s.2.1]++[b])=a::((l.map λs=>s.2.2)++[s.2.2]);rw[<-nR,c,e];rfl
theorem ee.cl{Ts:Bz}{a:Str}{l:List bg}(h:ee Ts a l a):sV l=true:=by
 have e:=h.mp;unfold sV;refine dc ?_;cases l with
 |nil=>rfl
 |cons s r=>
  rw[cJ,List.cons_append,List.cons.injEq] at e;rw[<-e.2];show _=(r++[s]).map λs=>s.2.1;rw[di,<-e.1];rfl
theorem ee.app{Ts:Bz}{a b c:Str}{l k:List bg}(h:ee Ts a l b)(h':ee Ts b k c):ee Ts a (l++k) c:=by
 induction h' with
 |nil=>rw[ko];exact h
 |snoc _ d e f=>
  rw[<-nR];exact .snoc f d e
theorem ee.bw{Ts:Bz}{a b:Str}{l:List bg}(h:ee Ts a l b):ee Ts b (bwd l) a:=by
 induction h with
 |nil=>exact .nil _
 | @snoc b l s _ d e f=>
  have g:bwd (l++[s])=[(s.1,s.2.2,s.2.1)]++bwd l:=by
   unfold bwd;simp
  rw[g];obtain⟨T,h1,h2,i⟩:=d;have ok:cU Ts (s.1,s.2.2,s.2.1):=⟨T,h1,i,h2⟩;have c:ee Ts s.2.2 ([]++[(s.1,s.2.2,s.2.1)]) s.2.1:=.snoc (.nil _) ok rfl;rw[d_] at c;rw[<-e];exact c.app f
theorem VE{Ts:Bz}{NN:Ap}(ar:d7 Ts NN){ss:List bg}(h:ff Ts=some ss):nE Ts ss=true:=by
 unfold ff at h;have g:=qd h;obtain⟨s,l,rfl⟩:=aS.mp (jJ h);have all:=(Cb ar l).1;obtain⟨T,h1,h2,m⟩:=z5 l;have i:=cS h1;have e:=(wZ (ar.tok T i).ne).1;have f:cU Ts s:=⟨T,h1,by rw[h2];exact e,m⟩;have n1:s.2.1∈fu (bO Ts):=oV ar i (by rw[h2];exact e);obtain⟨P,j,a⟩:=fX.mp n1;obtain⟨k,n,_,rfl⟩:=jy ar j;have b:s.2.2∈aH (aY Ts k):=by
  rw[nC ar n] at a ⊢;exact .step a ⟨T,i,by rw[h2];exact e,m⟩
 have d:=tK ar;have l1:gi (bO Ts) s.2.1=c9 (aY Ts k) s.2.1:=Bt _ _ _ d j a;have l2:gi (bO Ts) s.2.2=c9 (aY Ts k) s.2.2:=Bt _ _ _ d j b;have c:ee Ts k (iX Ts s) k:=by
  unfold iX;rw[l1,l2];exact(ee.snoc (q_ _ (ji a)) f rfl).app (q_ _ (ji b)).bw
 unfold nE;rw[c.cl,gp.mpr λx o=>uP.mpr (all x o)];simpa using g
theorem Xj(a b:Str):strLt a b\/a=b\/strLt b a:=by
 by_cases h1:a.cps.toList<b.cps.toList
 .exact .inl h1
 .by_cases h2:b.cps.toList<a.cps.toList
  .exact .inr (.inr h2)
  .refine .inr (.inl ?_)
   have e:a.cps.toList=b.cps.toList:=le_antisymm (not_lt.mp h2) (not_lt.mp h1);obtain⟨⟨a⟩⟩:=a;obtain⟨⟨b⟩⟩:=b;simp at e;rw[e]
theorem Xi{a b c:Str}(h:strLt a b)(k:strLt b c):strLt a c:=vc (show a.cps.toList<b.cps.toList from h) (show b.cps.toList<c.cps.toList from k)
theorem GU(a:Str):∀ys:Ap,ys.Pairwise strLt->∃zs:Ap,zs.Pairwise strLt/\∀x,x∈zs↔x=a\/x∈ys
 |[],_=>⟨[a],θ,λx=>θ⟩
 |y::r,h=>by
  obtain⟨h1,h2⟩:=i8.mp h;rcases Xj a y with c|c|c
  .refine⟨a::y::r,i8.mpr ⟨λx hx=>?_,h⟩,λx=>θ⟩
   rcases bx.mp hx with rfl|hx
   .exact c
   .exact Xi c (h1 x hx)
  .subst c
   exact⟨a::r,h,λx=>θ⟩
  .obtain⟨zs,d,b⟩:=GU a r h2
   refine⟨y::zs,i8.mpr ⟨λx hx=>?_,d⟩,λx=>?_⟩
   .rcases (b x).mp hx with rfl|hx
    .exact c
    .exact h1 x hx
   .rw[bx,bx,b x]
    constructor
    .rintro (h|h|h)
     .exact .inr (.inl h)
     .exact .inl h
     .exact .inr (.inr h)
    .rintro (h|h|h)
     .exact .inr (.inl h)
     .exact .inl h
     .exact .inr (.inr h)
theorem AB:∀ns:Ap,∃ys:Ap,ys.Pairwise strLt/\∀x,x∈ys↔x∈ns
 |[]=>⟨[],Pairwise.nil,λx=>Iff.rfl⟩
 |a::ns=>by
  obtain⟨ys,h1,h2⟩:=AB ns;obtain⟨zs,b,c⟩:=GU a ys h1;exact⟨zs,b,λx=>by rw[c,h2,bx]⟩
theorem YM{ys:Ap}{s:Str->Rat}{rs:List (Str×Int)}(t:(rs.map (·.1)).Nodup)(b:∀p∈ys.zip (lw (ys.map s)),p∈rs)(u:∀y∈ys,0<s y)(m:ys≠[]):
  (∀y∈ys,0<val rs y)/\(∀d:Int,(∀y∈ys,d∣val rs y)->d∣1)/\∃c:Rat,0<c/\∀y∈ys,(val rs y:Rat)=c*s y:=by
 have hl:(lw (ys.map s)).length=ys.length:=by rw[Hv,aQ]
 have g:∀x∈ys.map s,0<x:=λx a=>by
  obtain⟨y,v,rfl⟩:=aS.mp a;exact u y v
 have f:ys.map s≠[]:=λz=>m (by simpa using z);have row:∀x∈ys,∃i,∃k,ys[i]?=some x/\(lw (ys.map s))[i]?=some k/\val rs x=k:=λx a=>by
  obtain⟨i,hi,e⟩:=jm a;have j:ys[i]?=some x:=by rw[a_ hi,e]
  have h:(lw (ys.map s))[i]?=some ((lw (ys.map s))[i]' ω):=a_ _;have o:(ys.zip (lw (ys.map s)))[i]?=some (x,(lw (ys.map s))[i]' ω):=rH.mpr ⟨j,h⟩;exact⟨i,_,j,h,CM t (b _ (cS o))⟩
 refine⟨λx a=>?_,λk w=>?_,?_⟩
 .obtain⟨i,k,_,h,q⟩:=row x a
  rw[q];exact Sl g k (cS h)
 .refine Sk g f λn r=>?_
  obtain⟨i,hi,e⟩:=jm r;have a:ys[i]?=some (ys[i]' ω):=a_ _;have o:(ys.zip (lw (ys.map s)))[i]?=some (ys[i]' ω,n):=rH.mpr ⟨a,by rw[a_ hi,e]⟩;have:=w _ (cS a);rw[CM t (b _ (cS o))] at this;exact this
 .obtain⟨c,hc,e⟩:=Sm g f
  refine⟨c,hc,λx a=>?_⟩;obtain⟨i,k,j,h,q⟩:=row x a;rw[q];have z:=cB (λl=>l[i]?) e;simp only[bM,h,j,map_some] at z;exact Option.some.inj z
theorem CB{Ts:Bz}{NN:Ap}(ar:d7 Ts NN){rs:List (Str×Int)}(g:rs.Perm (kY Ts)){P:bf}(b:P∈bO Ts):
  (∀y∈aH P,0<val rs y)/\(∀d:Int,(∀y∈aH P,d∣val rs y)->d∣1)/\∃c:Rat,0<c/\∀y∈aH P,(val rs y:Rat)=c*dY Ts P y:=by
 have a:∀P∈bO Ts,∃ys:Ap,ys.Pairwise strLt/\∀x,x∈ys↔x∈aH P:=λP _=>AB _;obtain⟨t1,l⟩:=yx (Ts:=Ts) (tK ar) a;have h:(rs.map (·.1)).Nodup:=(g.map (·.1)).nodup_iff.mpr t1;obtain⟨n1,n2,n3⟩:=K6 (Ts:=Ts) (a P b);obtain⟨k,i,_,rfl⟩:=jy ar b;have e:k∈aH (aY Ts k):=(nC ar i).mpr (.refl _);have:=YM (ys:=jH (aH (aY Ts k))) (s:=dY Ts (aY Ts k)) h (λp f=>g.mem_iff.mpr (fX.mpr ⟨_,b,f⟩)) (λy j=>(vK ar.tok (yb _ (ji ((n3 y).mp j)))).1) (λz=>by
  have:=(n3 k).mpr e;rw[z] at this;cases this)
 simp only[n3] at this;exact this
theorem CA{Ts:Bz}{NN:Ap}(ar:d7 Ts NN){rs:List (Str×Int)}(e:rs.Perm (kY Ts))(x:Str):x∈rs.map (·.1)↔∃T∈Ts,x∈ai T:=by
 obtain⟨t1,f⟩:=yx (Ts:=Ts) (tK ar) λP _=>AB _;rw[(e.map (·.1)).mem_iff];refine(f x).trans ⟨λh=>?_,λ⟨T,b,c⟩=>oV ar b c⟩;obtain⟨P,g,c⟩:=fX.mp h;obtain⟨k,i,⟨T,b,d⟩,rfl⟩:=jy ar g;have r:=(nC ar i).mp c;cases r with
 |refl=>exact⟨T,b,d⟩
 |step _ a=>
  obtain⟨j,h1,h2,l⟩:=a;exact⟨j,h1,l⟩
theorem Mw:bootBuiltins "ValueError"=some (.type "ValueError"):=η
def zH:Ct:=λ_ _ _ _=>False
def zG:Ct:=λds A R _=>∃ms:D2,ds=[.tup (ms.map enc)]/\ms.length<=6/\(∀m∈ms,Fw m)/\∀(A':Ar) (q:Nat) (ys:Ap),Gr A A'->A'[q]?=some (.lst (ys.map D.str))->A.length<=q->ys.Pairwise strLt->(∀x,x∈ys↔x∈ms.flatMap bK.names)->R (.ref q) A'
def DY:Ct:=λds A R E=>∃x y,ds=[x,y]/\iV A x=true/\(¬∃ms,gq x ms)/\∀A',Gr A A'->E "NoHall" A'
def iN:List (Str×Bool)->Str->Option Bool
 |[],_=>none
 |(n,b)::r,c=>if c=n then some b else iN r c
theorem b9.nil{K:Frag}{mg:aA}{a:Value}:b9 K mg a (iN []):=λc C b h _=>by cases h
theorem b9.cons{K:Frag}{mg:aA}{nm:Str}{C:Addr}{a:Value}{b:Bool}{r:List (Str×Bool)}(d:mg nm=some (.ref C))(f:oh K C)(g:kitOne K (.ref C) a=some b)(i:b9 K mg a (iN r)):b9 K mg a (iN ((nm,b)::r)):=λc j k h h'=>by
 unfold iN at h;split at h
 .rename_i e
  subst e;cases h;rw[d] at h';cases h';exact⟨f,g⟩
 .exact i c j k h h'
def D6(nm:Str)(j:Nat):Ct:=λds A R _=>ds=[.exc nm]/\∀A',Gr A A'->R (.tup [.str "refused",.int (j:Nat)]) A'
def D7:Ct:=λds A R E=>D6 "NoHall" 1 ds A R E\/D6 "Never" 5 ds A R E
def fV(j:Nat):D:=.tup [.str "refused",.int (j:Nat)]
def zA:Ct:=λds A R _=>∃(i:Nat) (x:D),ds=[.int (i:Nat),x,.aG]/\iV A x=true/\
 (((¬∃ms,gq x ms)/\i<4/\∀A',Gr A A'->R (fV 1) A')\/∃ms:D2,x=.tup (ms.map enc)/\1<=ms.length/\ms.length<=6/\(∀m∈ms,Fw m)/\
  ((i=0/\(ff (ms.map aM)=none->∀A' rs,Gr A A'->rs.Perm (kY (ms.map aM))->(rs.map (·.1)).Pairwise strLt->R (iQ rs) A')/\(ff (ms.map aM)≠none->∀A',Gr A A'->R (fV 5) A'))\/
   (i=1/\(ff (ms.map aM)=none->∀A',Gr A A'->R .aG A')/\∀ss,ff (ms.map aM)=some ss->∀A' q,Gr A A'->A'[q]?=some (.lst (ss.map bE))->A.length<=q->R (.ref q) A')))
theorem AE{ms:D2}(hF:∀m∈ms,Fw m):∀ls:D2,(∀m∈ls,m∈ms)->(ls.flatMap bK.names).length<=5*ls.length
 |[],_=>by simp
 |m::ls,a=>by
  have i1:=AE hF ls λx c=>a x (bz _ c);have b:=hF m (a m (bA ..));have i2:m.names.length<=5:=by have:=j5 m.names N5 b.nd b.sub;simpa[N5] using this
  rw[sq,dZ,iw];omega
theorem F3{n:Nat}{x:Str}{st:Stmt}{ps:Ap}{k:Nat}(T:TopD K mg x st ps):av P w K mg base k x ps (au mg n zH):=nc T λds A R RE h=>h
theorem Pn(T:TopD K mg "_law_names_in" Jr xr)(i:mg "sorted"=none)(k:mg "set"=none)(b:av P w K mg base 9 "_law_leaves" uf (au mg 2 (qp 8))):av P w K mg base 10 "_law_names_in" xr (au mg 1 zG):=by
 refine bW T V_ λu G l H nd=>⟨_,(aE (dS 1 nd (dI af))
  (aE (d8 dM rfl (cj (vr 0)) (dG 2 nd) (aD (fm (gJ gQ pT rS t_ sY (vr 1) (aa (fk (some 2) (own:=[κn,κc]) (aw:=[]) (ix:=[]) rfl (cj (dL b u l (aa (vr 2) (aa bR af)))) (λc=>(mq rfl (gj (pG 0 (η:([κn,κc]:Ap).Nodup)) (gj (pG 1 (η:([κn,κc]:Ap).Nodup)) mu)))) (λc=>(vr 1))) af)))))
  (aD (aP (Fd i k rfl (aa (vr 1) af)))))),λds A R h hl=>?_⟩
 obtain⟨ms,rfl,I,hF,q⟩:=h;have hz:(1000:Nat)<=sizeLine:=δ
 refine⟨cA _,?_⟩;refine eF (λrest τ A'=>∃(j a:D2) (o:Option D),rest=a.map enc/\j++a=ms/\τ=[some (.tup (ms.map enc)),some (.ref A.length),o]/\A'[A.length]?=some (.lst ((j.flatMap bK.names).map D.str))/\Gr A A') ?_ ?_ ?_ _ _ _ ⟨[],ms,none,rfl,rfl,rfl,aI,Gr.push⟩
 .intro _ _ _ _
  trivial
 .rintro v rest τ z ⟨j,a,o,e,g,rfl,h1,n⟩ J B
  cases a with
  |nil=>cases e
  |cons m a=>
  cases e;have r:m∈ms:=by rw[<-g];simp
  have fd:=(hF m r).deep;have ln:=pq (m:=m) ω;refine⟨gf h1,rfl,_,⟨m,"",rfl,ω,η,δ,rfl⟩,λL N s h2=>?_⟩;refine dJ h2 ?_;refine gb (f:=λd=>match d with|.tup [_,y]=>y|d=>d) h2 _ _ (λd hd=>?_) (by simp[o8];omega) ?_
  .obtain⟨p,t,rfl⟩:=aS.mp hd
   exact⟨[.str p.1,.str p.2],rfl,λQ C=>C⟩
  have E:((kN m "").map iG).map (λd=>match d with|.tup [_,y]=>y|d=>d)=m.names.map D.str:=by
   rw[bH,<-nu m "",bH];rfl
  rw[d_,E];have F:=AE hF j λx l=>by rw[<-g];simp[l]
  have O:j.length<=6:=by
   have:=cB List.length g;simp at this;omega
  refine tF (getElem?_push (s.get h1)) aI (by rw[aQ,aQ];omega) ?_;refine B _ _ ⟨j++[m],a,_,rfl,by simpa using g,rfl,?_,((n.trans s).trans Gr.push).set (aJ _)⟩;rw[sj,di];have:[m].flatMap bK.names=m.names:=θ
  rw[this];exact fy (dB (getElem?_push (s.get h1)))
 .rintro τ z ⟨j,a,o,e,g,rfl,h1,n⟩
  cases a with
  |cons _ _=>cases e
  |nil=>
  have g:j=ms:=by simpa using g
  subst g;have F:=AE hF j λx l=>l;refine KR (ss:=j.flatMap bK.names) h1 (by have:=strs_map id (j.flatMap bK.names);simpa using this) ω λys t r=>?_;exact q _ _ ys (n.trans Gr.push) aI n.len t λx=>r x
theorem PJ(T:TopD K mg "settled" J_ xW)(g:mg "sorted"=none)(e:av P w K mg base 13 "hall_shares" pI (au mg 1 sH))(f:av P w K mg base 5 "check_told" HZ (au mg 2 zH))(a:av P w K mg base 6 "check_no_ring" uh (au mg 1 zI))(j:av P w K mg base 3 "groups" q7 (au mg 1 vB))(b:av P w K mg base 4 "settled_group" H8 (au mg 2 zH))(d:av P w K mg base 5 "group_weights" uq (au mg 2 zD)):av P w K mg base 14 "settled" xW (au mg 2 DY):=by
 refine bW T WO λk u l m nd=>⟨_,(aE (dS 2 nd (dL e k l (aa (vr 0) af)))
  (aE (fm (dL f k l (aa (vr 2) (aa (vr 1) af))))
  (aE (fm (dL a k l (aa (vr 2) af)))
  (aE (dS 3 nd (dI af))
  (aE (d8 dM rfl (cj (dL j k l (aa (vr 2) af))) (dG 4 nd) (aE (FA none (own:=["pair"]) (aw:=[κr]) (ix:=[4]) (i:=5) nd rfl (by first|exact Or.inl rfl|exact Or.inr rfl) rfl (cj (vr 1)) (λc=>(pG 0 (η:(["pair",κr]:Ap).Nodup))) (λc=>(Cy m (dX m (vr 0) aj) (vr 1))) (λc=>(vr 0)))
  (aD (fm (gJ gQ pT rS t_ sY (vr 3) (aa (dL b k l (aa (dL d k l (aa (vr 2) (aa (vr 4) af))) (aa (vr 5) af))) af))))))
  (aD (aP (dz (Er rfl m) E3 g boot_sorted (aa (vr 3) af))))))))),λds A R h hl=>?_⟩
 obtain⟨x,y,rfl,p,n,q⟩:=h;exact⟨rfl,x,rfl,p,λms s t r o v l1=>absurd ⟨ms,s⟩ n,λz t o=>q _ o⟩
theorem PY(T:TopD K mg "_law_which" Ce xy)(a:mg "isinstance"=none)(k:mg "ValueError"=none){d n b t e u g i:Addr}
  (v:mg "NoMobile"=some (.ref d))(L:mg "NoHall"=some (.ref n))(o:mg "NoWeights"=some (.ref b))(Q:mg "NoWay"=some (.ref t))(x:mg "NoNumber"=some (.ref e))(S:mg "Never"=some (.ref u))(G:mg "TooLong"=some (.ref g))(I:mg "TooDeep"=some (.ref i))
  (p:b9 K mg (.ref d) (iN [("NoHall",false),("Never",false)]))(J:b9 K mg (.ref n) (iN [("NoHall",true),("Never",false)]))(l:b9 K mg (.ref b) (iN [("NoHall",false),("Never",false)]))(M:b9 K mg (.ref t) (iN [("NoHall",false),("Never",false)]))(r:b9 K mg (.ref e) (iN [("NoHall",false),("Never",false)]))(O:b9 K mg (.ref u) (iN [("NoHall",false),("Never",true)]))(y:b9 K mg (.ref g) (iN [("NoHall",false),("Never",false)]))(z:b9 K mg (.ref i) (iN [("NoHall",false),("Never",false)]))(j:b9 K mg (.type "ValueError") (iN [("NoHall",true),("Never",true)])):qm P w K mg base 1 "_law_which" xy (au mg 1 D7):=by
 refine P5 T Km rfl δ λN f U B outer s H E X ds A R RE h hl=> ?_
 have Y:(B.deeper (envOfC "_law_which" (aK Ce) s.heap.objs.size f U)).units+64<cLine:=by
  have:=X.un
  omega
 have nd:=Km.nd
 refine⟨_,(aE (dS 1 nd (dI (aa (m7 a v p (vr 0)) (aa (m7 a L J (vr 0)) (aa (m7 a o l (vr 0)) (aa (m7 a Q M (vr 0)) af))))))
  (aE (fm (gJ gQ pT rS t_ sY (vr 1) (aa (dI (aa (m7 a x r (vr 0)) (aa (m7 a S O (vr 0)) (aa (m7 a G y (vr 0)) (aa (m7 a I z (vr 0)) af))))) af)))
  (aE (bY (PW.pt (gM (jG Y (gJ gQ PySem.F.slot_list_count PySem.F.type_list_count SQ Nq (vr 1) (aa fL af)) aj) (iD (eV (eW (NV a k Mw j (vr 0))))))) (aD (aP (cE (aa bR (aa (NY aj) af))))) b_)
  (aD (aP (cE (aa bR (aa (gJ gQ PySem.F.slot_list_index PySem.F.type_list_index SX Ny (vr 1) (aa fL af)) af)))))))),?_⟩
 rcases h with⟨rfl,q⟩|⟨rfl,q⟩
 .refine⟨(δ:4<=sizeLine),gf aI,(δ:4<=sizeLine),tF (getElem?_push aI) aI δ ?_⟩
  have h1:=get_set (ys:=[D.bl false,D.bl true,D.bl false,D.bl false]++[D.bl false,D.bl false,D.bl false,D.bl false]) (getElem?_push (T:=[C.lst [D.bl false,D.bl false,D.bl false,D.bl false]]) (aI (A:=A) (c:=C.lst [D.bl false,D.bl true,D.bl false,D.bl false])))
  have V:∀m,m<1->[false,true,false,false,false,false,false,false][m]? =some false:=δ
  refine⟨gf h1,EH (bs:=[false,true,false,false,false,false,false,false]) h1 rfl ?_⟩
  refine⟨gf h1,GQ (bs:=[false,true,false,false,false,false,false,false]) 1 h1 rfl rfl (λm c W h=>by rw[V m W] at h;cases h;decide) ⟨(δ:2<=sizeLine),q _ ?_⟩⟩
  exact(Gr.push.trans Gr.push).set (aJ _)
 .refine⟨(δ:4<=sizeLine),gf aI,(δ:4<=sizeLine),tF (getElem?_push aI) aI δ ?_⟩
  have h1:=get_set (ys:=[D.bl false,D.bl false,D.bl false,D.bl false]++[D.bl false,D.bl true,D.bl false,D.bl false]) (getElem?_push (T:=[C.lst [D.bl false,D.bl true,D.bl false,D.bl false]]) (aI (A:=A) (c:=C.lst [D.bl false,D.bl false,D.bl false,D.bl false])))
  have V:∀m,m<5->[false,false,false,false,false,true,false,false][m]? =some false:=δ
  refine⟨gf h1,EH (bs:=[false,false,false,false,false,true,false,false]) h1 rfl ?_⟩
  refine⟨gf h1,GQ (bs:=[false,false,false,false,false,true,false,false]) 5 h1 rfl rfl (λm c W h=>by rw[V m W] at h;cases h;decide) ⟨(δ:2<=sizeLine),q _ ?_⟩⟩
  exact(Gr.push.trans Gr.push).set (aJ _)
theorem OM(T:TopD K mg "_law_ask" Jh xj){a d m:Addr}(j:mg "HangError"=some (.ref a))(u:mg "NoHall"=some (.ref d))(v:mg "Never"=some (.ref m))(x1:exmOne K (.ref d) (.ref a)=some true)(x2:exmOne K (.ref m) (.ref a)=some true)
  (p:av P w K mg base 14 "together" ya (au mg 1 D4))(z:av P w K mg base 14 "ring" xV (au mg 1 DV))(r:av P w K mg base 14 "is_ring" uv (au mg 2 vC))(t:av P w K mg base 14 "settled" xW (au mg 2 DY))
  (b:qm P w K mg base 1 "_law_which" xy (au mg 1 D7)):av P w K mg base 24 "_law_ask" xj (au mg 3 zA):=by
 refine jf T Kg rfl δ λN RE f cdv B outer s H E y hR W ds A R h hl=> ?_
 have hu:=y.units
 have nd:=Kg.nd
 obtain⟨D,ar⟩:∃o:Ap,o=[("NoHall":Str),"Never"]:=⟨_,rfl⟩
 have S:∀c C,c∈D->mg c=some (.ref C)->exmOne K (.ref C) (.ref a)=some true:=λc C hc U=>by
  rw[ar] at hc
  rcases bx.mp hc with rfl|hc
  .rw[u] at U;cases U;exact x1
  .rw[bS.mp hc,v] at U;cases U;exact x2
 refine⟨_,(aD (Ol (i:=3) D rfl rfl rfl nd rfl rfl j S (λM RE pn E W=>(aE (bY (rD (vr 0) aj) (aD (aP (E9 (k:=22) (n:=1) (we (p.mono δ) (we (z.mono δ) Gi δ) δ) (vr 0) (λ_ _=>rfl) (y.mono ω) W (aa (vr 1) af)))) b_)
  (aD (aP (E9 (k:=22) (n:=2) (we (r.mono δ) (we (t.mono δ) Gi δ) δ) (oM (vr 0) aj) (λ_ _=>rfl) (y.mono ω) W (aa (vr 1) (aa (vr 2) af))))))) (λM e=>(aD (aP (NS b (lR.of (y.mono ω)) (aa (vr 3) af))))))),?_⟩
 have F:("NoHall":Str)∈D:=by rw[ar];simp
 have X:("Never":Str)∈D:=by rw[ar];simp
 obtain⟨i,x,rfl,O,h⟩:=h
 have nm:∀n∈N5,Nm n:=ny
 rcases h with⟨G,hi,q⟩|⟨ms,rfl,h1,Y,hF,h⟩
 .have c4:i=0\/i=1\/i=2\/i=3:=ω
  rcases c4 with rfl|rfl|rfl|rfl
  .exact⟨rfl,x,N5,rfl,O,nm,λms J=>absurd ⟨ms,J⟩ G,λQ A' g=>⟨F,rfl,.inl ⟨rfl,λV I=>q _ (g.trans I)⟩⟩⟩
  .exact⟨rfl,x,N5,rfl,O,λms J=>absurd ⟨ms,J⟩ G,λQ A' g=>⟨F,rfl,.inl ⟨rfl,λV I=>q _ (g.trans I)⟩⟩⟩
  .exact⟨rfl,x,_,rfl,O,λms J=>absurd ⟨ms,J⟩ G,λQ A' g=>⟨F,rfl,.inl ⟨rfl,λV I=>q _ (g.trans I)⟩⟩⟩
  .exact⟨rfl,x,_,rfl,O,G,λA' g=>⟨F,rfl,.inl ⟨rfl,λV I=>q _ (g.trans I)⟩⟩⟩
 .have J:=Bd h1 Y hF
  have ok:=nh Y hF
  rcases h with⟨rfl,Z,q2⟩|⟨rfl,Z,q2⟩
  .refine⟨rfl,_,N5,rfl,O,nm,λms' L=> ?_,λQ=>absurd ⟨ms,J⟩ Q⟩
   have e:=AR L
   subst e
   exact⟨ok,λy=>⟨Qn Y hF,λA' rs g hp hw=>Z y _ _ g hp hw⟩,λy A' g=>⟨X,rfl,.inr ⟨rfl,λV I=>q2 y _ (g.trans I)⟩⟩⟩
  .refine⟨rfl,_,N5,rfl,O,λms' L=> ?_,λQ=>absurd ⟨ms,J⟩ Q⟩
   have e:=AR L
   subst e
   exact⟨ok,λy A' g=>Z y _ g,λss hs A' q g hq l=>q2 ss hs _ _ g hq l⟩
theorem dm.pK{Ts:Bz}{s:Str}{F:Tb}(h:dm Ts s F){n:Str}(a:n∈ai F):gH Ts s n:=by
 obtain⟨x,b⟩:=o6 a;obtain⟨l,c,_⟩:=h.snd _ b;exact c.pK
theorem dm.all{Ts:Bz}{s:Str}{F:Tb}(h:dm Ts s F)(hc:jN Ts F){n:Str}(b:gH Ts s n):n∈ai F:=by
 induction b with
 |refl=>exact dN h.st
 |step _ a c=>exact hc _ c _ a
theorem G2{Ts:Bz}{NN:Ap}(ar:d7 Ts NN)(o:ff Ts=none){rs:List (Str×Int)}(p:rs.Perm (kY Ts)){s:Str}{F T0:Tb}(g:dm Ts s F)(hc:jN Ts F)(q:T0∈Ts)(r:s∈ai T0):
  (∀n∈ai F,0<val rs n)/\(∀d:Int,(∀n∈ai F,d∣val rs n)->d∣1)/\∀n∈ai F,val rs n*(rf (aB F n)).2=val rs s*(rf (aB F n)).1:=by
 obtain⟨P,i,a⟩:=fX.mp (oV ar q r);obtain⟨k,j,_,rfl⟩:=jy ar i;have b:gH Ts k s:=(nC ar j).mp a;have mem:∀n,n∈ai F↔n∈aH (aY Ts k):=λn=>by
  rw[nC ar j];exact⟨λh=>b.trans (g.pK h),λh=>g.all hc (b.symm.trans h)⟩
 obtain⟨t,p2,c,H,l⟩:=CB ar p i;refine⟨λn e=>t n ((mem n).mp e),λd hd=>p2 d λy u=>hd y ((mem y).mpr u),λn e=>?_⟩;obtain⟨w,f⟩:=BJ ar o;have x:=g.val ar.tok f e;have z:dY Ts (aY Ts k) n*w k=w n:=vJ ar.tok f (q_ _ (ji ((mem n).mp e)));have A:dY Ts (aY Ts k) s*w k=w s:=vJ ar.tok f (q_ _ (ji a));have B:=l n ((mem n).mp e);have C:=l s a;have v:=iJ (aB F n);have I:=iO (gR (ck (aB F n)));have J:=iU (f.pos k);have key:(val rs n:Rat)*((rf (aB F n)).2:Rat)=(val rs s:Rat)*((rf (aB F n)).1:Rat):=by
  rw[B,C];have D:aB F n*(dY Ts (aY Ts k) s*w k)=dY Ts (aY Ts k) n*w k:=by rw[z,A];exact x
  generalize dY Ts (aY Ts k) s=gs at*
  generalize dY Ts (aY Ts k) n=m at*
  have E:aB F n*gs=m:=by
   have:aB F n*gs*w k=m*w k:=by rw[Rat.mul_assoc];exact D
   grind
  have G:((rf (aB F n)).1:Rat)=aB F n*((rf (aB F n)).2:Rat):=by
   have:((rf (aB F n)).1:Rat)/((rf (aB F n)).2:Rat)=aB F n:=v;grind
  rw[G,<-E];grind
 have k2:((val rs n*(rf (aB F n)).2:Int):Rat)=((val rs s*(rf (aB F n)).1:Int):Rat):=by
  rw[gU,gU];exact key
 exact Rat.intCast_inj.mp k2
theorem Cj{f:Str->Int}{c:Rat}:∀(m:M) (w d:Str) (x:Rat),m.arms->(∀p∈b6 m w x,(f p.2.1:Rat)=c*p.2.2)->(ld f m:Rat)=c*x/\fW f m d=[]
 |.wt n,w,d,x,_,h=>⟨h (w,n,x) (bS.mpr rfl),rfl⟩
 |.cz l r a b,w,d,x,i,h=>by
  obtain⟨s,t,u,v,j,o⟩:=i;have h:∀p∈b6 a (w++"l") (x*((r:Rat)/((l+r:Int):Rat)))++b6 b (w++"r") (x*((l:Rat)/((l+r:Int):Rat))),(f p.2.1:Rat)=c*p.2.2:=h;obtain⟨a1,a2⟩:=Cj a (w++"l") (d++"l") _ j λp e=>h p (mK _ e);obtain⟨g,q⟩:=Cj b (w++"r") (d++"r") _ o λp e=>h p (iy _ e);have s0:=iO (ω:l+r≠0);have es:((l+r:Int):Rat)=(l:Rat)+(r:Rat):=Rat.intCast_add l r;rw[es] at a1 g s0;have k:l*ld f a=r*ld f b:=by
   refine Rat.intCast_inj.mp ?_;rw[gU,gU,a1,g];grind
  constructor
  .show((ld f a+ld f b:Int):Rat)=c*x
   rw[Rat.intCast_add,a1,g];grind
  .show hr2 d (l*ld f a) (r*ld f b)++fW f a _++fW f b _=[]
   rw[a2,q,k];unfold hr2;simp
theorem Rx{ms:D2}(x:ms.length<=6)(hF:∀m∈ms,Fw m)(y:ff (ms.map aM)=none){rs:List (Str×Int)}(z:rs.Perm (kY (ms.map aM))):∀m∈ms,fW (val rs) m ""=[]:=λm s=>by
 have ar:=nh x hF;have d:=hF m s;have l:aM m∈ms.map aM:=dN s;obtain⟨tk,t,u⟩:=mE d.hl;obtain⟨w,o⟩:=BJ ar y;obtain⟨j,a⟩:∃n,n∈ai (aM m):=by
  cases e:ai (aM m) with
  |nil=>exact absurd (C2.mp e) tk.ne
  |cons n r=>exact⟨n,θ⟩
 obtain⟨P,v,f⟩:=fX.mp (oV ar l a);obtain⟨k,A,_,rfl⟩:=jy ar v;obtain⟨D,p2,c,E,B⟩:=CB ar z v;obtain⟨k1,_⟩:=yr d.hl.bar;refine(Cj (c:=c*(w j/shr m j)/w k) m "" "" 1 d.arms λp h=>?_).2;have q:p.2.1∈m.names:=by
  rw[<-pN m "" 1];exact dN h
 have b:p.2.1∈ai (aM m):=(t _).mpr q;have i:p.2.1∈aH (aY (ms.map aM) k):=by
  rw[nC ar A] at f ⊢;exact .step f ⟨_,l,a,b⟩
 have F:dY (ms.map aM) (aY (ms.map aM) k) p.2.1*w k=w p.2.1:=vJ ar.tok o (q_ _ (ji i));have C:=o.eq _ l _ a _ b;rw[u _ b,u _ a] at C;have s0:=iU (Kv d.arms (by have:=d.deep;omega) d.hl.bar ((t _).mp a)).pos;have G:=iU (o.pos k);rw[B _ i,k1 p h];generalize dY (ms.map aM) (aY (ms.map aM) k) p.2.1=g at*
 generalize shr m p.2.1=sp at*
 have:g=w j/shr m j*sp/w k:=by grind
 rw[this];grind
def Me(k:Nat)(s:bg):Prop:=s.1<k/\s.2.1∈N5/\s.2.2∈N5
theorem Kw{A:Ar}{r:Nat}{lo hi:Option Int}{xs:Bi}{R:DK}(h:A[r]?=some (.lst xs))(k:R (.ref A.length) (A++[.lst (cutD xs lo hi)])):uN r lo hi A R:=by
 unfold uN;simp only[h];exact k
theorem Ac(xs:Bi):cutD xs (some 1) none=xs.drop 1:=by
 unfold cutD;cases xs with
 |nil=>rfl
 |cons x r=>
  have a:HT.aZ (x::r).length 0 (some 1)=1:=by simp[HT.aZ]
  have b:HT.aZ (x::r).length (x::r).length none=(x::r).length:=rfl;rw[a,b];exact zc θ
theorem EN(xs:Bi):cutD xs none (some 1)=xs.take 1:=by
 unfold cutD;cases xs with
 |nil=>rfl
 |cons x r=>
  have a:HT.aZ (x::r).length 0 none=0:=rfl;have b:HT.aZ (x::r).length (x::r).length (some 1)=1:=by simp[HT.aZ]
  rw[a,b];rfl
noncomputable def iW(w:Str->Rat):Ap->Rat
 |[]=>1
 |n::l=>w n*iW w l
theorem Iq{w:Str->Rat}(h:∀n,0<w n):∀l,0<iW w l
 |[]=>by show(0:Rat)<1;decide
 |n::l=>mQ (h n) (Iq h l)
theorem BX(w:Str->Rat):∀a b,iW w (a++b)=iW w a*iW w b
 |[],b=>(r8 _).symm
 |n::a,b=>by
  show w n*iW w (a++b)=w n*iW w a*iW w b;rw[BX w a b,Rat.mul_assoc]
theorem Gd{Ts:Bz}{w:Str->Rat}(a:∀T∈Ts,h_ T)(h:Cs Ts w):∀(l:List bg) (x:Rat),(∀s∈l,cU Ts s)->l.foldl (λx s=>x*b8 Ts s) x*iW w (l.map λs=>s.2.1)=x*iW w (l.map λs=>s.2.2)
 |[],x,_=>rfl
 |s::l,x,b=>by
  have e:=Gd a h l (x*b8 Ts s) λy c=>b y (bz _ c);have d:=KN a h (b s (bA ..));rw[gF,cJ,cJ];show _*(w s.2.1*iW w _)=x*(w s.2.2*iW w _);rw[<-d];grind
theorem VF{Ts:Bz}(c:∀T∈Ts,h_ T){ss:List bg}(h:nE Ts ss=true):¬∃w,Cs Ts w:=by
 rintro ⟨w,a⟩;unfold nE at h;rw[gE,gE] at h;obtain⟨⟨h1,h2⟩,b⟩:=h;have d:∀s∈ss,cU Ts s:=λs h=>uP.mp (gp.mp h1 s h);have e:=Gd c a ss 1 d;have f:ss.map (λs=>s.2.2)=(ss.drop 1++ss.take 1).map (λs=>s.2.1):=fY h2;have g:iW w ((ss.drop 1++ss.take 1).map λs=>s.2.1)=iW w (ss.map λs=>s.2.1):=by
  rw[di,BX,Rat.mul_comm,<-BX,<-di,List.take_append_drop]
 rw[f,g,r8] at e;have p:=iU (Iq a.pos (ss.map λs=>s.2.1));have:cO Ts ss=1:=by
  show ss.foldl (λx s=>x*b8 Ts s) 1=1;grind
 rw[this] at b;simp at b
theorem Hg(j:Nat):canLay0 (toQ (fV j))=true:=by
 show canLay0 (.tuple [.str "refused",.int j])=true;simp only[canLay0,canLayAll0,Bool.and_true];decide+kernel
theorem Vp{neg:Bool}{j:Nat}{A:Ar}{R:DK}(k:R (.bl (!neg)) A):fD neg (fV j) (.tup [.str "refused",.int j]) A R:=by
 unfold fD;have c:=Hg j;have h1:cH A (fV j)=toQ (fV j):=rfl;have h2:cH A (.tup [.str "refused",.int j])=toQ (fV j):=rfl;rw[h1,h2];refine⟨rfl,rfl,c,c,?_,?_⟩
 .show min (PyData.depth (.tuple [.str "refused",.int j])) (PyData.depth (.tuple [.str "refused",.int j]))<=64
  simp[PyData.depth,depthAll]
 .rw[C4 _ c]
  cases neg<;>exact k
noncomputable def Sv(RE:DX):cK:=iY (iK 5 (jd (aV (dC (.int 1)) (aV (dC (.int 1)) cC))))
 (iY (iK 6 (iC 1 sF RE (aV (aT 2) cC)))
 (iY (uJ (jz (aT 4)) (gT 3 (wm (gN 7) (wm (gN 8) (wm (gN 9) AM))))
  (iY (iK 10 (br eZ (aT 6) (aT 7)))
   (iK 5 (iC 2 qq RE (aV (br o_ (br o_ (br eZ (aT 5) (dC (.int 0))) (br eZ (br eZ (aT 10) (aT 9)) (dC (.int 0)))) (br eZ (br eZ (aT 10) (aT 8)) (dC (.int 1))))
    (aV (br o_ (br o_ (br eZ (aT 5) (dC (.int 1))) (br eZ (br eZ (aT 10) (aT 9)) (dC (.int 1)))) (br eZ (br eZ (aT 10) (aT 8)) (dC (.int 0)))) cC))))))
 (iY (iK 11 (br lY (ic none [] (jz (aT 4)) iu (br eZ (aT 0) (dC (.int 2)))) (ic none [] (jz (br om (Af (aT 4) (oS (dC (.int 1))) oN) (Af (aT 4) oN (oS (dC (.int 1)))))) iu (br eZ (aT 0) (dC (.int 1))))))
  (pL (vN (br lY (aT 3) (jd (aV (dC (.str "refused")) (aV (dC (.int 5)) cC)))) (vN (aT 11) (vN (br pA (aT 5) (jd (aV (dC (.int 1)) (aV (dC (.int 1)) cC)))) (br lY (iC 2 vC RE (aV (aT 2) (aV (aT 4) cC))) (dC (.bl true))))))))))
theorem VH{RE:DX}{R:DK}{nx:bQ->Ar->Prop}{ns:DD}{t K:Nat}{ms:D2}{ss:List bg}{A:Ar}(m1:1<=ms.length)(m6:ms.length<=6)(hF:∀m∈ms,Fw m)(hA:A[K]?=some (.lst (ss.map bE)))(u:ss.length<=45)(hB:nE (ms.map aM) ss=true)(q:∀A',R (.bl true) A'):
  Sv RE {nx:=nx,rt:=R} [some (.fl ns),some (.ref t),some (.tup (ms.map enc)),some (fV 5),some (.ref K),none,none,none,none,none,none,none,none,none,none,none,none,none] A:=by
 have hz:(1000:Nat)<=sizeLine:=δ
 have ok:=nh m6 hF;have l:=hB;unfold nE at l;rw[gE,gE] at l;obtain⟨⟨w,S⟩,B⟩:=l;have U:∀s∈ss,Me ms.length s:=λs hs=>by
  obtain⟨T0,z1,z2,z3⟩:=uP.mp (gp.mp w s hs);have k:=cS z1;have:=(bP.mp z1).1;rw[aQ] at this;exact⟨this,ok.sub T0 k _ z2,ok.sub T0 k _ z3⟩
 refine⟨(δ:2<=sizeLine),rfl,ms,rfl,m6,hF,λA1 qb g1 V l1=>?_⟩;obtain⟨W,eb,hD⟩:=V;have lt:=hD.len;rw[aQ] at lt;have o:=g1.get hA;refine dJ o ?_;refine eF (λrest τ A'=>∃(a b:List bg) (X x8 x9 Y:Option D),rest=b.map bE/\a++b=ss/\(∀s∈a,cU (ms.map aM) s)/\τ=[some (.fl ns),some (.ref t),some (.tup (ms.map enc)),some (fV 5),some (.ref K),some (fq (cO (ms.map aM) a)),some (.ref qb),X,x8,x9,Y,none,none,none,none,none,none,none]/\Gr A1 A') ?_ ?_ ?_ _ _ _ ⟨[],ss,none,none,none,none,rfl,rfl,λ_ h=>(by cases h),rfl,Gr.refl⟩
 .rintro rest τ A' ⟨_,_,_,_,_,_,_,_,_,_,g⟩
  exact g.get o
 .rintro v rest τ L ⟨a,b,x4,x5,x6,X,e,i,p,rfl,E⟩ Nx hN
  cases b with
  |nil=>cases e
  |cons st b=>
  cases e;have F:st∈ss:=by rw[<-i];simp
  obtain⟨T,k,N,O⟩:=uP.mp (gp.mp w st F);have s1:=(U st F).1;obtain⟨P,G⟩:∃P,W[st.1]?=some P:=⟨W[st.1]' ω,a_ ω⟩;obtain⟨T',H,hd⟩:=hD.get G;rw[k] at H;cases H;have I:=cS k;have Z:=E.get eb;have hd2:=E.get hd;have hix:cV (W.map D.ref) ((st.1:Nat):Int)=some (.ref P):=mY (by rw[bM,G];rfl);refine⟨rfl,jg Z hix ?_⟩;have ar:cU (ms.map aM) st:=⟨T,k,N,O⟩;obtain⟨xp,xa⟩:=vK ok.tok p;obtain⟨bp,ba,bb⟩:=mF hF I O;obtain⟨np,na,nb⟩:=mF hF I N;have ldn:a.length<=45:=by
   have:=cB List.length i;simp at this;omega
  have eS:cO (ms.map aM) (a++[st])=cO (ms.map aM) a*(aB T st.2.2/aB T st.2.1):=by
   rw[qx];unfold b8;rw[iZ k,iZ k]
  generalize hx:cO (ms.map aM) a=x at*
  have x1:=cW xp;have x2:=ck x;have b1:=cW bp;have b2:=ck (aB T st.2.2);have n1:=cW np;have n2:=ck (aB T st.2.1);have m1:(rf (aB T st.2.2)).1*(rf (aB T st.2.1)).2<=81*324:=dH ba nb (dO n2) δ;have m0:0<(rf (aB T st.2.2)).1*(rf (aB T st.2.1)).2:=cT b1 n2;have k1:0<(rf x).1*(rf (aB T st.2.2)).1*(rf (aB T st.2.1)).2:=cT (cT x1 b1) n2;have k2:0<(rf x).2*(rf (aB T st.2.2)).2*(rf (aB T st.2.1)).1:=cT (cT x2 b2) n1;have k3:(rf x).1*(rf (aB T st.2.2)).1*(rf (aB T st.2.1)).2<2 ^ 2000:=by
   refine rM ?_ (BV ldn);rw[lC];exact dH xa ω (dO m0) (mL δ)
  refine e9 hd2 rfl (iF O) ⟨.inr ⟨ω,ω⟩,e9 hd2 rfl (iF N) ⟨.inr ⟨ω,ω⟩,e9 hd2 rfl (iF O) ⟨.inr ⟨ω,ω⟩,e9 hd2 rfl (iF N) ⟨.inr ⟨ω,ω⟩,?_⟩⟩⟩⟩;refine⟨rfl,_,⟨_,_,rfl,k1,k2,k3,rfl⟩,λA3 g3=>?_⟩;refine hN _ _ ⟨a++[st],b,some (.int ((st.1:Nat):Int)),some (.str st.2.1),some (.str st.2.2),some (.ref P),rfl,by simpa using i,λs hs=>?_,?_,E.trans g3⟩
  .rcases cu.mp hs with hs|hs
   .exact p s hs
   .rw[bS.mp hs];exact ar
  .rw[eS]
   show [_,_,_,_,_,some (D.tup [.int (rd _ _).1,.int (rd _ _).2]),_,_,_,_,_,_,_,_,_,_,_,_]=_;rw[AH k2,Lj xp bp np]
 rintro τ L ⟨a,b,x4,x5,x6,X,e,i,p,rfl,E⟩;cases b with
 |cons _ _=>cases e
 |nil=>
 have i:a=ss:=by simpa using i
 subst i;have r:=E.get o;refine dJ r ?_;refine gb (f:=λd=>match d with|.tup [_,_,c]=>c|d=>d) r _ _ (λd hd=>?_) (by simp;omega) ?_
 .obtain⟨st,_,rfl⟩:=aS.mp hd
  exact⟨[bE st],rfl,λQ hQ=>hQ⟩
 have e1:([]:Bi)++(a.map bE).map (λd=>match d with|.tup [_,_,c]=>c|d=>d)=(a.map λs=>s.2.2).map D.str:=by
  rw[d_,bH,bH];rfl
 rw[e1];generalize J:L++[C.lst ((a.map λs=>s.2.2).map D.str)]=A3;have h3:A3[L.length]?=some (.lst ((a.map λs=>s.2.2).map D.str)):=by rw[<-J];exact aI
 have g3:Gr L A3:=by rw[<-J];exact Gr.push
 have j:=g3.get r;refine Kw j (Kw (getElem?_push j) (kG (getElem?_push aI) aI (by rw[Ac,EN];simp;omega) ?_));rw[Ac,EN];have e2:(a.map bE).drop 1++(a.map bE).take 1=(a.drop 1++a.take 1).map bE:=by
  rw[di,map_drop,List.map_take]
 rw[e2];refine dJ aI ?_;refine gb (f:=λd=>match d with|.tup [_,c,_]=>c|d=>d) aI _ _ (λd hd=>?_) (by simp;omega) ?_
 .obtain⟨st,_,rfl⟩:=aS.mp hd
  exact⟨[bE st],rfl,λQ hQ=>hQ⟩
 have e3:([]:Bi)++((a.drop 1++a.take 1).map bE).map (λd=>match d with|.tup [_,c,_]=>c|d=>d)=((a.drop 1++a.take 1).map λs=>s.2.1).map D.str:=by
  rw[d_,bH,bH];rfl
 rw[e3];refine FU (getElem?_push (getElem?_push (getElem?_push (getElem?_push h3)))) aI (λn hn=>?_) (λn hn=>?_) ?_
 .obtain⟨s,hs,rfl⟩:=aS.mp hn
  exact ny _ (U s hs).2.2
 .obtain⟨s,hs,rfl⟩:=aS.mp hn
  have:s∈a:=by
   rcases cu.mp hs with hs|hs
   .exact uZ hs
   .exact rO hs
  exact ny _ (U s this).2.1
 have Ou:decide (a.map (λs=>s.2.2)=(a.drop 1++a.take 1).map (λs=>s.2.1))=true:=S;rw[Ou];have e5:cO (ms.map aM) a≠1:=by
  intro z;rw[z] at B;simp at B
 refine⟨(δ:2<=sizeLine),Vp ?_⟩;refine⟨(δ:2<=sizeLine),w4 (y:=1) ?_⟩;rw[fh e5];refine⟨rfl,_,_,rfl,HS hF,λms' Qu=>⟨K,a,rfl,getElem?_push (getElem?_push (getElem?_push (getElem?_push j))),u,?_,λA5 g5=>?_⟩,λz=>absurd ⟨ms,Bd m1 m6 hF⟩ z⟩
 .have e6:=AR Qu
  subst e6;exact hB
 .exact q _
noncomputable def Su(RE:DX):cK:=rq (EU (fU (br pA (ic (some 2) [] (jz (aT 3)) iu (aT 0)) (iC 1 zG RE (aV (aT 2) cC)))) (Ae (fU (jv sO (aV (ic (some 2) [] (jz (aT 3)) iu (br wo (aT 1) (dC (.int 0)))) cC))))) (pL (dC (.bl false))) rz
noncomputable def Sq:cK:=rq (EO (fU (br wU (jv BD (aV (ic (some 2) [] (jz (aT 3)) iu (aT 1)) cC)) (dC (.int 1000000)))) (Ae (fU (jv sO (aV (ic none [3] (jz (aT 2)) iu (iC 2 zM ua (aV (aT 0) (aV (aT 1) cC)))) cC))))) (pL (dC (.bl false))) rz
noncomputable def So(RE:DX):cK:=uJ (jz (jv wN (aV (aT 10) cC))) (gN 12)
 (iY (iK 13 (jv wN (aV (iC 2 sI RE (aV (aT 2) (aV (aT 12) cC))) cC)))
 (iY (rq (fU (jv zO (aV (ic none [13,10] (jz (jd (aV (dC (.int 2)) (aV (dC (.int 3)) (aV (dC (.int 5)) (aV (dC (.int 7)) (aV (dC (.int 11)) (aV (dC (.int 13)) (aV (dC (.int 17)) cC))))))))) iu
   (jv sO (aV (ic none [2,0] (jz (aT 1)) iu (br lY (br Hz (br eZ (aT 1) (aT 0)) (aT 2)) (dC (.int 0)))) cC))) cC))) (pL (dC (.bl false))) rz)
 (iY (iK 3 (iC 2 sI RE (aV (aT 2) (aV (aT 12) cC))))
  (uJ (jz (aT 13)) (gN 14) (rq (fU (br pA (br o_ (br eZ (aT 10) (aT 14)) (br eZ (br eZ (aT 3) (aT 14)) (dC (.int 1)))) (br o_ (br eZ (aT 10) (aT 12)) (br eZ (br eZ (aT 3) (aT 14)) (dC (.int 0)))))) (pL (dC (.bl false))) rz)))))
theorem Ob{rs:List (Str×Int)}(a:(rs.map (·.1)).Pairwise strLt)(hl:rs.length<=1000){A:Ar}{R:DK}(k:R (.ref A.length) (A++[.dct (fN rs)])):dctP (rs.map cX) A R:=by
 unfold dctP;rw[BO];refine⟨by simp[fN];omega,?_⟩;unfold nD;rw[BZ rs [] a (λp h=>by simp at h)];exact k
theorem S9{A:Ar}{r q:Nat}{ss:Ap}{R:DK}(h1:A[r]?=some (.lst (ss.map D.str)))(h2:A[q]?=some (.lst (ss.map D.str)))(n1:∀n∈ss,Nm n)(k:R (.bl false) A):fD true (.ref r) (.ref q) A R:=
 S8 h1 h2 (uD ss) (by rw[rm];exact tV ss n1) (by rw[rm,Am];decide) k
section
variable{RE:DX}{K:mS}{ms:D2}{rs:List (Str×Int)}{A:Ar}{τ:bQ}
structure K7(ms:D2)(rs:List (Str×Int)):Prop where
 m6:ms.length<=6
 hF:∀m∈ms,Fw m
 rg:ff (ms.map aM)=none
 pm:rs.Perm (kY (ms.map aM))
 up:(rs.map (·.1)).Pairwise strLt
theorem K7.ok(h:K7 ms rs):d7 (ms.map aM) N5:=nh h.m6 h.hF
theorem K7.nms(h:K7 ms rs)(x:Str):x∈rs.map (·.1)↔x∈ms.flatMap bK.names:=by
 rw[CA h.ok h.pm,fX];constructor
 .rintro ⟨T,c,b⟩
  obtain⟨m,a,rfl⟩:=aS.mp c;exact⟨m,a,((mE (h.hF m a).hl).2.1 x).mp b⟩
 .rintro ⟨m,a,b⟩
  exact⟨_,dN a,((mE (h.hF m a).hl).2.1 x).mpr b⟩
theorem K7.n5(h:K7 ms rs){x:Str}(a:x∈rs.map (·.1)):x∈N5:=by
 obtain⟨m,b,a⟩:=fX.mp ((h.nms x).mp a);exact(h.hF m b).sub x a
theorem K7.nd(h:K7 ms rs):(rs.map (·.1)).Nodup:=h.up.imp λh=>Cm h
theorem K7.len(h:K7 ms rs):rs.length<=5:=by
 have:=j5 (rs.map (·.1)) N5 h.nd λx a=>h.n5 a;simpa[N5] using this
theorem K7.Gw(h:K7 ms rs){x:Str}(a:x∈rs.map (·.1)):∃T∈ms.map aM,x∈ai T:=(CA h.ok h.pm x).mp a
theorem K7.pos(h:K7 ms rs){p:Str×Int}(b:p∈rs):0<p.2:=by
 obtain⟨T,c,d⟩:=h.Gw (dN b);obtain⟨P,e,a⟩:=fX.mp (oV h.ok c d);have:=(CB h.ok h.pm e).1 _ a;rwa [CM h.nd b] at this
theorem VJ(rs:List (Str×Int)):(rs.map cX).map (λd=>match d with|.tup [a,_]=>a|d=>d)=(rs.map (·.1)).map D.str:=by
 rw[bH,bH];rfl
abbrev mD(ns:DD)(t:Nat)(ms:D2)(d3:D)(qb:Nat)(k9 k_ jI:Option D):bQ:=[some (.fl ns),some (.ref t),some (.tup (ms.map enc)),some d3,some .aG,none,none,none,none,none,some (.ref qb),none,k9,k_,jI,none,none,none]
variable{ns:DD}{t qb:Nat}
theorem S4(h:K7 ms rs)(k:∀A',Gr A A'->K.nx (mD ns t ms (iQ rs) qb none none none) A'):Su RE K (mD ns t ms (iQ rs) qb none none none) A:=by
 have hz:(1000:Nat)<=sizeLine:=δ
 have s:=h.len;refine gb (f:=λd=>match d with|.tup [a,_]=>a|d=>d) trivial _ _ (λd hd=>?_) (by simp;omega) ?_
 .obtain⟨p,_,rfl⟩:=aS.mp hd
  exact⟨[.str p.1,.int p.2],rfl,λQ b=>b⟩
 rw[d_,VJ];refine⟨rfl,ms,rfl,h.m6,h.hF,λu v ys c h1 l1 e g=>?_⟩;have j:ys=rs.map (·.1):=L2.pw_eq e h.up λx=>by rw[g,h.nms]
 subst j;refine S9 (c.get aI) h1 (λn l=>ny n (h.n5 l)) ?_;refine gb (f:=λd=>match d with|.tup [_,.int i]=>.bl (decide (0<i))|d=>d) trivial _ _ (λd hd=>?_) (by simp;omega) ?_
 .obtain⟨p,_,rfl⟩:=aS.mp hd
  exact⟨[.str p.1,.int p.2],rfl,λQ b=>b⟩
 have m:(rs.map cX).map (λd=>match d with|.tup [_,.int i]=>D.bl (decide (0<i))|d=>d)=rs.map λr=>D.bl (decide (0<r.2)):=by
  rw[bH];rfl
 rw[d_,m];refine oq aI (lU _ rs) ?_;have o:(rs.map λr=>decide (0<r.2)).all id=true:=by
  rw[all_map,gp];intro p q;exact dc (h.pos q)
 rw[o];exact k _ ((Gr.push.trans c).trans Gr.push)
theorem SG{A:Ar}{r:Nat}{xs:Bi}{ns:DD}{R:DK}(h:A[r]?=some (.lst xs))(hi:jA xs=some ns)(a:ns≠[])(k:∀m∈ns,(∀n∈ns,n<=m)->R (.int m) A):wV r A R:=by
 unfold wV;simp only[h];unfold t8;rw[hi];exact⟨a,k⟩
theorem SH(h:K7 ms rs)(e:rs≠[])(k:∀A',Gr A A'->K.nx (mD ns t ms (iQ rs) qb none none none) A'):Sq K (mD ns t ms (iQ rs) qb none none none) A:=by
 have hz:(1000:Nat)<=sizeLine:=δ
 have z:=h.len;refine gb (f:=λd=>match d with|.tup [_,a]=>a|d=>d) trivial _ _ (λd hd=>?_) (by simp;omega) ?_
 .obtain⟨p,_,rfl⟩:=aS.mp hd
  exact⟨[.str p.1,.int p.2],rfl,λQ g=>g⟩
 have q:(rs.map cX).map (λd=>match d with|.tup [_,a]=>a|d=>d)=rs.map λr=>D.int r.2:=by
  rw[bH];rfl
 rw[d_,q];refine SG aI (ints_map (λr=>r.2) rs) (by simpa using e) λB s hle=>?_;refine cD (λc=>?_) (λc=>?_)
 .have i:mW rs:=⟨λr b=>ny _ (h.n5 (dN b)),λr b=>⟨h.pos b,by have:=hle r.2 (dN b);omega⟩,h.up,ω⟩
  have m6:=h.m6;refine oB (λ_=>.bl true) _ _ _ (λ_ _=>trivial) (λd hd u l=>?_) (by simp;omega) (λu l=>?_)
  .obtain⟨m,j,rfl⟩:=aS.mp hd
   have o:=h.hF m j;refine⟨[enc m],rfl,λQ g=>⟨rfl,m,rs,rfl,o.wf,⟨i,λn v=>(h.nms n).mpr (fX.mpr ⟨m,j,v⟩)⟩,by have:=o.deep;omega,λC w=>?_⟩⟩;rw[dc (Rx h.m6 h.hF h.rg h.pm m j)];exact g _ w
  have x:([]:Bi)++(ms.map enc).map (λ_=>D.bl true)=ms.map λm=>D.bl ((λ_=>true) m):=by
   rw[d_,bH];rfl
  rw[x];refine oq aI (lU _ ms) ?_;have y:(ms.map λ_=>true).all id=true:=by
   rw[all_map,gp];exact λ_ _=>rfl
  rw[y];exact k _ ((Gr.push.trans l).trans Gr.push)
 .exact k _ Gr.push
theorem Sd(h:K7 ms rs)(hq:A[qb]?=some (.dct (fN rs)))(k:∀d3 k9 k_ jI A',Gr A A'->K.nx (mD ns t ms d3 qb k9 k_ jI) A'):So RE K (mD ns t ms (iQ rs) qb none none none) A:=by
 have hz:(1000:Nat)<=sizeLine:=δ
 have l5:=h.len;have R:(fN rs).map (·.1)=(rs.map (·.1)).map Sum.inr:=by
  unfold fN;rw[bH,bH];rfl
 refine qU hq R (by simp;omega) ?_;refine dJ aI ?_;refine eF (λrest τ A'=>∃(l:Ap) (d3:D) (k9 k_ jI:Option D),rest=l.map D.str/\(∀s∈l,s∈rs.map (·.1))/\τ=mD ns t ms d3 qb k9 k_ jI/\Gr (A++[C.lst ((rs.map (·.1)).map D.str)]) A') ?_ ?_ ?_ _ _ _ ⟨rs.map (·.1),_,none,none,none,rfl,λ_ h=>h,rfl,Gr.refl⟩
 .rintro rest τ A' ⟨_,_,_,_,_,_,_,_,g⟩
  exact g.get aI
 .rintro v rest τ A1 ⟨l,d3,k9,k_,jI,e,S,rfl,J⟩ Nx hN
  cases l with
  |nil=>cases e
  |cons s l=>
  cases e;have L:=S s (bA ..);obtain⟨T0,q,u⟩:=h.Gw L;have T:=(Gr.push.trans J).get hq;refine⟨rfl,ms,s,rfl,h.m6,h.hF,h.n5 L,λM p2 F g2 h2 l2 N hc=>?_⟩;have lf:=N.len;refine qU h2 (qQ F) (by simp[ai];omega) ?_;obtain⟨n1,n2,n3⟩:=G2 h.ok h.rg h.pm N hc q u;have inr:∀n∈ai F,n∈rs.map (·.1):=λn m=>by
   rw[CA h.ok h.pm];have r:=N.pK m;cases r with
   |refl=>exact⟨T0,q,u⟩
   |step _ a=>
    obtain⟨T',k1,k2,k3⟩:=a;exact⟨T',k1,k3⟩
  generalize B:M++[C.lst ((ai F).map D.str)]=A3;have h3:A3[M.length]?=some (.lst ((ai F).map D.str)):=by rw[<-B];exact aI
  have g3:Gr M A3:=by rw[<-B];exact Gr.push
  have E:=(g2.trans g3).get T;refine⟨(δ:7<=sizeLine),?_⟩;refine oB (λd=>match d with|.int i=>.bl (decide (∀n∈ai F,val rs n%i=0))|d=>d) _ _ _ (λ_ _=>trivial) (λd hd O y=>?_) (δ:7<=sizeLine) (λO y=>?_)
  .obtain⟨i,hi,rfl⟩:∃i:Int,0<i/\d=.int i:=by
    simp only[bx,gB,gC] at hd;rcases hd with rfl|rfl|rfl|rfl|rfl|rfl|rfl<;>exact⟨_,δ,rfl⟩
   refine⟨[.int i],rfl,λQ U=>?_⟩;have h4:=y.get h3;have V:=y.get E;refine dJ h4 ?_;refine gb (f:=λd=>match d with|.str n=>.bl (decide (val rs n%i=0))|d=>d) h4 _ _ (λd hd=>?_) (by simp[ai];omega) ?_
   .obtain⟨n,m,rfl⟩:=aS.mp hd
    refine⟨[.str n],rfl,λQ U=>?_⟩;exact e9 V rfl (qM rs n (inr n m)) ⟨hi,U⟩
   have e1:([]:Bi)++((ai F).map D.str).map (λd=>match d with|.str n=>D.bl (decide (val rs n%i=0))|d=>d)=(ai F).map λn=>D.bl (decide (val rs n%i=0)):=by
    rw[d_,bH];rfl
   rw[e1];refine oq aI (lU _ _) ?_;have e2:((ai F).map λn=>decide (val rs n%i=0)).all id=decide (∀n∈ai F,val rs n%i=0):=by
    rw[all_map,nI,gp,decide_eq_true_iff];exact⟨λh n m=>fY (h n m),λh n m=>dc (h n m)⟩
   rw[e2];exact U _ Gr.push
  have no:∀i:Int,1<i->decide (∀n∈ai F,val rs n%i=0)=false:=λi hi=>fh λz=>by
   have:=n2 i λn m=>Int.dvd_of_emod_eq_zero (z n m);have:=le_of_dvd δ this;omega
  have e4:([]:Bi)++([.int 2,.int 3,.int 5,.int 7,.int 11,.int 13,.int 17]:Bi).map (λd=>match d with|.int i=>D.bl (decide (∀n∈ai F,val rs n%i=0))|d=>d)=([false,false,false,false,false,false,false]:Fn).map λb=>D.bl (id b):=by
   simp only[d_,cJ,map_nil,no 2 δ,no 3 δ,no 5 δ,no 7 δ,no 11 δ,no 13 δ,no 17 δ,id]
  rw[e4];refine Mk aI (lU _ _) ?_;have P:Gr O (O++[C.lst (([false,false,false,false,false,false,false]:Fn).map λb=>D.bl (id b))]):=Gr.push;generalize (O++[C.lst (([false,false,false,false,false,false,false]:Fn).map λb=>D.bl (id b))]:Ar)=A5 at P;have W:=(g3.trans y).trans P;refine⟨rfl,ms,s,rfl,h.m6,h.hF,h.n5 L,λA6 p6 F6 X h6 l6 o G=>?_⟩;obtain⟨_,_,n6⟩:=G2 h.ok h.rg h.pm o G q u;have H:=((y.trans P).trans X).get h3;have I:=((y.trans P).trans X).get E;refine dJ H ?_;refine eF (λrest τ A'=>∃(j:Ap) (jI:Option D),rest=j.map D.str/\(∀n∈j,n∈ai F)/\τ=mD ns t ms (.ref p6) qb (some (.str s)) (some (.ref M.length)) jI/\A'=A6) ?_ ?_ ?_ _ _ _ ⟨ai F,_,rfl,λ_ h=>h,rfl,rfl⟩
  .rintro rest τ A' ⟨_,_,_,_,_,rfl⟩
   exact H
  .rintro v rest τ A7 ⟨j,Y,e,w,rfl,rfl⟩ YR Z
   cases j with
   |nil=>cases e
   |cons n j=>
   cases e;have m:=w n (bA ..);have p:=o.all G (N.pK m);obtain⟨x,hx⟩:=o6 p;have ex:aB F6 n=x:=uM o.nd hx;obtain⟨xp,xa,xb⟩:0<x/\(rf x).1<=474373168346071296/\(rf x).2<=474373168346071296:=o.pos hx;have x1:=cW xp;have x2:=ck x;have en:=n6 n p;rw[ex] at en;refine e9 I rfl (qM rs n (inr n m)) (e9 h6 rfl (by rw[iF p,ex]) ?_);refine⟨.inr ⟨ω,ω⟩,e9 I rfl (qM rs s L) (e9 h6 rfl (by rw[iF p,ex]) ?_)⟩;refine⟨.inr ⟨ω,ω⟩,?_⟩;refine cN (λc=>absurd en c) (λ_=>Z _ _ ⟨j,_,rfl,λz hz=>w z (bz _ hz),rfl,rfl⟩)
  .rintro τ A7 ⟨j,Y,e,w,rfl,rfl⟩
   exact hN _ _ ⟨l,_,_,_,_,rfl,λz hz=>S z (bz _ hz),rfl,(J.trans (g2.trans W)).trans X⟩
 .rintro τ A1 ⟨l,d3,k9,k_,jI,e,S,rfl,J⟩
  exact k _ _ _ _ _ (Gr.push.trans J)
end
noncomputable def Sw(RE:DX):cK:=iY (iK 15 (jd (aV (dC (.str "rod")) (aV (dC (.int 1)) (aV (dC (.int 2)) (aV (jd (aV (dC (.str "weight")) (aV (dC (.str "a")) cC))) (aV (jd (aV (dC (.str "weight")) (aV (dC (.str "a")) cC))) cC)))))))
 (iY (iK 16 (vO (aV (dC .aG) (aV (jd cC) (aV (jv Bx (aV (aT 2) cC)) (aV (br yj (aT 2) (dC (.int 7))) (aV (br om (Ag (aT 2) (oS (dC (.int 1))) oN) (jd (aV (aT 15) cC))) (aV (br om (Ag (aT 2) (oS (dC (.int 1))) oN) (jd (aV (dC .aG) cC))) (aV (dC (.str κy)) (aV (jd (aV (dC (.str "weight")) (aV (dC (.str "a")) cC))) cC))))))))))
 (iY (iK 17 (iC 3 qt RE (aV (aT 0) (aV (aT 1) (aV (aT 16) cC)))))
  (pL (br lY (ic none [17] (GO (aV (dC (.int 4)) cC)) iu (iC 3 zA ua (aV (aT 0) (aV (aT 1) (aV (dC .aG) cC))))) (br yh (vO (aV (jd (aV (dC (.str "refused")) (aV (dC (.int 1)) cC))) cC)) (dC (.int 4)))))))
theorem HE:∀m:M,m.names≠[]
 |.wt n=>by simp[bK.names]
 |.cz l r a b=>by
  show a.names++b.names≠[];simp[HE a]
def pO:M:=.cz 1 2 (.wt "a") (.wt "a")
theorem X_:¬Hl pO:=λh=>by
 have:=h.bar;revert this;decide+kernel
theorem S2:∀n∈pO.names,Nm n:=λn a=>by
 have:n="a":=by simpa[pO,bK.names] using a
 rw[this];exact ny "a" (by simp[N5])
structure L8(A:Ar)(x:D):Prop where
 ok:iV A x=true
 no:¬∃ms,gq x ms
theorem OD{A:Ar}{p q:Nat}{xs:Bi}{R:DK}(h:A[p]?=some (.lst xs))(h':A[q]?=some (.lst xs))(d:fP xs=true)(hl:canLayAll0 (bG xs)=true)(hd:depthAll (bG xs)<=60)(k:R (.bl true) A):fD false (.ref p) (.ref q) A R:=by
 unfold fD;have a:cH A (.ref p)=.list (bG xs):=by unfold cH;simp only[h]
 have b:cH A (.ref q)=.list (bG xs):=by unfold cH;simp only[h']
 have c:canLay0 (.list (bG xs))=true:=by simpa[canLay0] using hl
 refine⟨?_,?_,?_,?_,?_,?_⟩
 .unfold iH;simp only[h];exact d
 .unfold iH;simp only[h'];exact d
 .rw[a];exact c
 .rw[b];exact c
 .rw[a,b];simp only[PyData.depth];omega
 .rw[a,b,C4 _ c]
  exact k
theorem OE{A:Ar}{p q k j:Nat}{R:DK}(h:A[p]?=some (.lst (replicate k (fV j))))(h':A[q]?=some (.lst (replicate k (fV j))))(b:R (.bl true) A):fD false (.ref p) (.ref q) A R:=by
 have c:=Hg j;have d:(toQ (fV j)).depth=1:=by
  show PyData.depth (.tuple [.str "refused",.int j])=1;simp[PyData.depth,depthAll]
 have key:∀k:Nat,fP (replicate k (fV j))=true/\canLayAll0 (bG (replicate k (fV j)))=true/\depthAll (bG (replicate k (fV j)))<=60:=λk=>by
  induction k with
  |zero=>exact⟨rfl,rfl,by simp[bG,depthAll]⟩
  |succ k e=>
   obtain⟨h1,h2,a⟩:=e;rw[lE];refine⟨by rw[show fP (fV j::replicate k (fV j))=(gO (fV j)&&fP (replicate k (fV j))) from rfl,h1];rfl,by simp[bG,canLayAll0,c,h2],?_⟩;simp only[bG,depthAll];omega
 obtain⟨h1,h2,a⟩:=key k;exact OD h h' h1 h2 a b
section
variable{RE:DX}{R:DK}{nx:bQ->Ar->Prop}{ms:D2}{A:Ar}{ns:DD}{t qb:Nat}{d3:D}{k9 k_ jI:Option D}
theorem Ax{a:D2}{d:D}{xs:Bi}(e:D.tup xs=.tup (a.map enc))(h:d∈xs):∃m∈a,d=enc m:=by
 have e:=D.tup.inj e;rw[e] at h;obtain⟨m,b,e⟩:=aS.mp h;exact⟨m,b,e.symm⟩
theorem X5(w:1<=ms.length)(m6:ms.length<=6)(hF:∀m∈ms,Fw m)(tw:Tw t 300 A)(q:∀A',R (.bl true) A'):Sw RE {nx:=nx,rt:=R} (mD ns t ms d3 qb k9 k_ jI) A:=by
 have hz:(1000:Nat)<=sizeLine:=δ
 have H:∀m∈ms,∀n∈m.names,Nm n:=λm a=>(hF m a).wf.nm;have B:cutD (ms.map enc) (some 1) none=(ms.drop 1).map enc:=by rw[Ac,map_drop]
 have lc:(cutD (ms.map enc) (some 1) none).length<=6:=by rw[B];simp;omega
 have ne:ms.map enc≠[]:=λz=>by
  have:=cB List.length z;simp at this;rw[this] at w;simp at w
 refine⟨(ω:2<=sizeLine),(ω:2<=sizeLine),(ω:5<=sizeLine),cA _,ne,δ,δ,by rw[aQ];show ms.length*7<=sizeLine;omega,(ω:1<=sizeLine),(ω:(cutD (ms.map enc) (some 1) none).length+1<=sizeLine),(ω:1<=sizeLine),(ω:(cutD (ms.map enc) (some 1) none).length+1<=sizeLine),(ω:2<=sizeLine),(ω:8<=sizeLine),?_⟩;obtain⟨I,o,_⟩:=id tw;have J:=dB o;obtain⟨f,b⟩:∃f,f=A++[C.lst (ms.map enc)]:=⟨_,rfl⟩;have p:f[A.length]?=some (.lst (ms.map enc)):=by rw[b];exact aI
 have r:Tw t 300 f:=by rw[b];exact tw.gr Gr.push
 have K:t<f.length:=by rw[b];simp;omega
 have L:A.length<f.length:=by rw[b];simp
 rw[<-b];refine⟨rfl,ns,t,_,_,300,rfl,ω,aI,θ,r.gr Gr.push,δ,λx s d M t3=>?_⟩;have u:s[A.length]?=some (.lst (ms.map enc)):=M _ _ ω (getElem?_push p);have E:L8 s x:=by
  rw[B] at d;simp only[bx,gB,gC] at d;rcases d with rfl|rfl|rfl|rfl|rfl|rfl|rfl|rfl
  .exact⟨rfl,λ⟨_,e,_⟩=>by cases e⟩
  .refine⟨rfl,λ⟨c,e,h,_,_⟩=>?_⟩
   have:c=[]:=by
    have:=D.tup.inj e;simpa using this.symm
   subst this;simp at h
  .exact⟨HU u,λ⟨_,e,_⟩=>by cases e⟩
  .have N:(replicate (7:Int).toNat (ms.map enc)).flatten=((replicate 7 ms).flatten).map enc:=by
    rw[List.map_flatten,List.map_replicate];rfl
   rw[N];refine⟨gp.mpr λy hy=>?_,λ⟨c,e,_,F,_⟩=>?_⟩
   .obtain⟨m,a,rfl⟩:=aS.mp hy
    obtain⟨l,hl,a⟩:=List.mem_flatten.mp a;rw[(List.mem_replicate.mp hl).2] at a;exact ud (hF m a).wf (by have:=(hF m a).deep;omega)
   .have:=Ay (D.tup.inj e)
    rw[<-this] at F;simp at F;omega
  .refine⟨gp.mpr λy hy=>?_,λ⟨c,e,_,_,v⟩=>?_⟩
   .rcases cu.mp hy with hy|hy
    .obtain⟨m,a,rfl⟩:=aS.mp hy
     exact ud (hF m (uZ a)).wf (by have:=(hF m (uZ a)).deep;omega)
    .rw[bS.mp hy]
     exact ud (m:=pO) ⟨⟨δ,δ,δ,δ,trivial,trivial⟩,S2⟩ δ
   .have O:(D.tup [.str "rod",.int 1,.int 2,.tup [.str "weight",.str "a"],.tup [.str "weight",.str "a"]])=enc pO:=rfl
    obtain⟨m,a,e⟩:=Ax e (iy _ (bS.mpr rfl));rw[O] at e;have:m=pO:=(tu e).symm;rw[this] at a;exact X_ (v pO a)
  .refine⟨gp.mpr λy hy=>?_,λ⟨c,e,_,_,v⟩=>?_⟩
   .rcases cu.mp hy with hy|hy
    .obtain⟨m,a,rfl⟩:=aS.mp hy
     exact ud (hF m (uZ a)).wf (by have:=(hF m (uZ a)).deep;omega)
    .rw[bS.mp hy]
     exact xg.mpr (.inr (.inl rfl))
   .obtain⟨m,a,e⟩:=Ax e (iy _ (bS.mpr rfl))
    cases m<;>cases e
  .exact⟨rfl,λ⟨_,e,_⟩=>by cases e⟩
  .refine⟨gp.mpr λy hy=>xg.mpr (.inr (.inr (by simp at hy;rcases hy with rfl|rfl<;>exact⟨_,rfl⟩))),λ⟨c,e,_,_,v⟩=>?_⟩
   obtain⟨m,a,e⟩:=Ax e (bA ..);cases m<;>cases e
 clear d;refine⟨δ,δ,?_⟩;refine oB (λ_=>fV 1) (fF 0 4) [] s (λ_ _=>trivial) (λz g P G=>?_) (by show 0+4<=sizeLine;omega) (λP G=>?_)
 .obtain⟨i,hi,rfl⟩:∃i:Nat,i<4/\z=.int ((i:Nat):Int):=by
   unfold fF at g;obtain⟨i,hi,rfl⟩:=aS.mp g;exact⟨i,by simpa using hi,θ⟩
  exact⟨[.int ((i:Nat):Int)],rfl,λQ S=>⟨rfl,i,_,rfl,Tr G _ E.ok,.inl ⟨E.no,hi,λU T=>S _ T⟩⟩⟩
 refine⟨(ω:2<=sizeLine),(ω:1<=sizeLine),?_⟩;refine VA aI δ δ δ ?_;exact OE (k:=4) (j:=1) (getElem?_push (getElem?_push aI)) aI (q _)
end
theorem Pa{Z:Addr}{fd:FuncData}(T:lO K "law" "law" mw Z fd)(o:mg "list"=none)(D:mg "range"=none)(I:mg "dict"=none)(x:mg "all"=none)(M:mg "any"=none)(O:mg "max"=none)(p:av P w K mg base 4 "_law_pick" qY (au mg 3 qt))(r:av P w K mg base 8 "_law_hall" xo (au mg 2 DE))(a:av P w K mg base 24 "_law_ask" xj (au mg 3 zA))(j:av P w K mg base 10 "_law_books" qW (au mg 1 sF))(y:av P w K mg base 14 "is_ring" uv (au mg 2 vC))(k:av P w K mg base 12 "_law_agree" xh (au mg 1 Du))(l:av P w K mg base 1 "_law_least" pH (au mg 2 qq))(i:av P w K mg base 10 "_law_names_in" xr (au mg 1 zG))(v:av P w K mg base 19 "is_still" xM (au mg 2 zM))(d:av P w K mg base 11 "_law_heavy" ue (au mg 2 sI)):f9 P w K mg base (bU P w) 26 Z fd BN (au mg 1 DJ):=by
 refine P6 T Kp rfl δ λN RE f cdv B outer s H E C hR F ds A R h hl=>?_;have g:=C.units;have nd:=Kp.nd;refine⟨_,(@aE _ _ _ _ _ _ (dS 1 nd (dI af)) (@aE _ _ _ _ _ _ (dS 2 nd (dL r C F (aa (vr 0) (aa (vr 1) af)))) (@aE _ _ _ _ _ _ (dS 3 nd (dL a C F (aa aj (aa (vr 2) (aa jX af))))) (@aE _ _ _ _ _ _ (dS 4 nd (dL a C F (aa aj (aa (vr 2) (aa jX af))))) (@aE _ _ _ _ _ _ (bY (jG g (e_is (vr 4) jX) (dL k C F (aa (vr 2) af))) (@aD _ _ _ _ (aP fL)) b_) (@aE _ _ _ _ _ _ (bY (Cz (vr 4) jX) (@aE _ _ _ _ _ _ (dS 5 nd (cE (aa aj (aa aj af)))) (@aE _ _ _ _ _ _ (dS 6 nd (dL j C F (aa (vr 2) af))) (@aE _ _ _ _ _ _ (d8 dM rfl (cj (vr 4)) (oO rfl (gK (dG 7 nd) (gK (dG 8 nd) (gK (dG 9 nd) oQ)))) (@aE _ _ _ _ _ _ (dS 10 nd (dX g (vr 6) (vr 7))) (@aD _ _ _ _ (dS 5 nd (dL l C F (aa (dQ (dQ (dX g (vr 5) aj) (dX g (dX g (vr 10) (vr 9)) aj)) (dX g (dX g (vr 10) (vr 8)) aj)) (aa (dQ (dQ (dX g (vr 5) aj) (dX g (dX g (vr 10) (vr 9)) aj)) (dX g (dX g (vr 10) (vr 8)) aj)) af))))))) (@aE _ _ _ _ _ _ (dS 11 nd (lX g (fk none (own:=["_law_step"]) (aw:=[]) (ix:=[]) rfl (cj (vr 4)) (λc=>(pG 0 (η:(["_law_step"]:Ap).Nodup))) (λc=>(dX g (vr 0) aj))) (fk none (own:=["_law_step"]) (aw:=[]) (ix:=[]) rfl (cj (dP (E_ (vr 4) (vY aj) vX) (E_ (vr 4) vX (vY aj)))) (λc=>(pG 0 (η:(["_law_step"]:Ap).Nodup))) (λc=>(dX g (vr 0) aj))))) (@aD _ _ _ _ (aP (m5 (lX g (vr 3) (cE (aa bR (aa aj af)))) (m5 (vr 11) (m5 (FI g (vr 5) (cE (aa aj (aa aj af)))) (qC (lX g (dL y C F (aa (vr 2) (aa (vr 4) af))) fL))))))))))) b_) (@aE _ _ _ _ _ _ (dS 10 nd (ie (qv rfl) qz I r9 (aa (vr 3) af))) (@aE _ _ _ _ _ _ (bY (PW.pt (gM (jG g (fk (some 2) (own:=[κc,"_law_number"]) (aw:=[]) (ix:=[]) rfl (cj (vr 3)) (λc=>(mq rfl (gj (pG 0 (η:([κc,"_law_number"]:Ap).Nodup)) (gj (pG 1 (η:([κc,"_law_number"]:Ap).Nodup)) mu)))) (λc=>(vr 0))) (dL i C F (aa (vr 2) af))) (iD (eV (eW (dz (oA rfl) oF x p9 (aa (fk (some 2) (own:=[κc,"_law_number"]) (aw:=[]) (ix:=[]) rfl (cj (vr 3)) (λc=>(mq rfl (gj (pG 0 (η:([κc,"_law_number"]:Ap).Nodup)) (gj (pG 1 (η:([κc,"_law_number"]:Ap).Nodup)) mu)))) (λc=>(Ot (vr 1) aj))) af))))))) (@aD _ _ _ _ (aP fL)) b_) (@aE _ _ _ _ _ _ (bY (PW.pt (Au (rD (dz (MI rfl) NF O boot_max (aa (fk (some 2) (own:=[κc,"_law_number"]) (aw:=[]) (ix:=[]) rfl (cj (vr 3)) (λc=>(mq rfl (gj (pG 0 (η:([κc,"_law_number"]:Ap).Nodup)) (gj (pG 1 (η:([κc,"_law_number"]:Ap).Nodup)) mu)))) (λc=>(vr 1))) af)) aj) (Av (eV (eW (dz (oA rfl) oF x p9 (aa (fk none (own:=[κh]) (aw:=[κm]) (ix:=[3]) rfl (cj (vr 2)) (λc=>(pG 0 (η:([κh,κm]:Ap).Nodup))) (λc=>(dL v C mj (aa (vr 0) (aa (vr 1) af))))) af))))))) (@aD _ _ _ _ (aP fL)) b_) (@aE _ _ _ _ _ _ (d8 dM rfl (cj (ie (qw rfl) qA o lK (aa (vr 10) af))) (dG 12 nd) (@aE _ _ _ _ _ _ (dS 13 nd (ie (qw rfl) qA o lK (aa (dL d C F (aa (vr 2) (aa (vr 12) af))) af))) (@aE _ _ _ _ _ _ (bY (eW (dz (MD rfl) Np M Mx (aa (fk none (own:=["_law_number"]) (aw:=["_law_group",κi]) (ix:=[13,10]) rfl (cj (cE (@aa _ _ _ _ _ _ aj (@aa _ _ _ _ _ _ aj (@aa _ _ _ _ _ _ aj (@aa _ _ _ _ _ _ aj (@aa _ _ _ _ _ _ aj (@aa _ _ _ _ _ _ aj (@aa _ _ _ _ _ _ aj af kW) kW) kW) kW) kW) kW) kW))) (λc=>(pG 0 (η:(["_law_number","_law_group",κi]:Ap).Nodup))) (λc=>(dz (oA rfl) oF x p9 (aa (fk none (own:=[κc]) (aw:=[κi,"_law_number"]) (ix:=[2,0]) rfl (cj (vr 1)) (λc=>(pG 0 (η:([κc,κi,"_law_number"]:Ap).Nodup))) (λc=>(lX g (oJ (dX g (vr 1) (vr 0)) (vr 2)) aj))) af)))) af))) (@aD _ _ _ _ (aP fL)) b_) (@aE _ _ _ _ _ _ (dS 3 nd (dL d C F (aa (vr 2) (aa (vr 12) af)))) (@aD _ _ _ _ (d8 dM rfl (cj (vr 13)) (dG 14 nd) (@aD _ _ _ _ (bY (jG g (dQ (dX g (vr 10) (vr 14)) (dX g (dX g (vr 3) (vr 14)) aj)) (dQ (dX g (vr 10) (vr 12)) (dX g (dX g (vr 3) (vr 14)) aj))) (@aD _ _ _ _ (aP fL)) b_)))))))) (@aE _ _ _ _ _ _ (dS 15 nd (cE (aa bR (aa aj (aa aj (aa (cE (aa bR (aa bR af))) (aa (cE (aa bR (aa bR af))) af))))))) (@aE _ _ _ _ _ _ (dS 16 nd (dI (aa jX (aa (cE af) (aa (ie Ep E1 o lK (aa (vr 2) af)) (aa (N1 (vr 2) aj) (aa (dP (Fc (vr 2) (vY aj) vX) (cE (aa (vr 15) af))) (aa (dP (Fc (vr 2) (vY aj) vX) (cE (@aa _ _ _ _ _ _ jX af kW))) (aa bR (aa (cE (@aa _ _ _ _ _ _ bR (@aa _ _ _ _ _ _ bR af kW) kW)) af)))))))))) (@aE _ _ _ _ _ _ (dS 17 nd (dL p C F (aa (vr 0) (aa (vr 1) (aa (vr 16) af))))) (@aD _ _ _ _ (aP (lX g (fk none (own:=[κB]) (aw:=["_law_odd"]) (ix:=[17]) rfl (s9 D (aa aj af)) (λc=>(pG 0 (η:([κB,"_law_odd"]:Ap).Nodup))) (λc=>(dL a C mj (aa (vr 0) (aa (vr 1) (aa jX af)))))) (NZ (dI (aa (cE (aa bR (aa aj af))) af)) aj))))))))))))))))),?_⟩;obtain⟨ns,rfl,q⟩:=h;have hz:(1000:Nat)<=sizeLine:=δ
 refine⟨cA _,rfl,ns,_,0,rfl,⟨[],aI,aJ _⟩,δ,λms A1 L m6 hF d1=>?_⟩;have hH:=Bd L m6 hF;have ok:=nh m6 hF;have J:∀B:Ar,iV B (.tup (ms.map enc))=true:=λB=>HS hF;generalize ht:A.length=t at*
 have S:Tw t 300 A1:=by have:=d1.tw;simpa using this
 cases u:ff (ms.map aM) with
 |some ss=>
  refine⟨rfl,0,_,rfl,J _,.inr ⟨ms,rfl,L,m6,hF,.inl ⟨rfl,(λz=>by rw[u] at z;cases z),λ_ A2 g2=>?_⟩⟩⟩;refine⟨rfl,1,_,rfl,J _,.inr ⟨ms,rfl,L,m6,hF,.inr ⟨rfl,(λz=>by rw[u] at z;cases z),λU G A3 q0 g3 h3 l3=>?_⟩⟩⟩;rw[u] at G;cases G;have hB:=VE ok u;refine⟨rfl,ms,rfl,m6,hF,λb A4 V W=>?_⟩;have:b=false:=by
   cases b with
   |false=>rfl
   |true=>exact absurd (V.mp rfl) (VF ok.tok hB)
  subst this;have hlen:ss.length<=9:=by
   have hs:=u;unfold ff at hs;obtain⟨st,X,rfl⟩:=aS.mp (jJ hs);exact(Cb ok X).2
  exact VH L m6 hF (W.get h3) ω hB q
 |none=>
  refine⟨rfl,0,_,rfl,J _,.inr ⟨ms,rfl,L,m6,hF,.inl ⟨rfl,λ_ A2 rs g2 hp hw=>?_,λz=>absurd u z⟩⟩⟩;refine⟨rfl,1,_,rfl,J _,.inr ⟨ms,rfl,L,m6,hF,.inr ⟨rfl,λ_ A3 g3=>?_,λU G=>by rw[u] at G;cases G⟩⟩⟩;refine⟨rfl,ms,rfl,m6,hF,λb A4 V W=>?_⟩;have:b=true:=V.mpr (BJ ok u);subst this;have Q:K7 ms rs:=⟨m6,hF,u,hp,hw⟩;have l5:=Q.len;have Y:rs≠[]:=λz=>by
   obtain⟨m,hm⟩:∃m,m∈ms:=by
    cases ms with
    |nil=>simp at L
    |cons m _=>exact⟨m,bA ..⟩
   obtain⟨n,hn⟩:∃n,n∈m.names:=by
    cases e:m.names with
    |nil=>exact absurd e (HE m)
    |cons n _=>exact⟨n,θ⟩
   have:=(Q.nms n).mpr (fX.mpr ⟨m,hm,hn⟩);rw[z] at this;cases this
  refine Ob hw ω ?_;refine S4 (qb:=A4.length) Q λA5 g5=>?_;refine SH Q Y λA6 g6=>?_;refine Sd Q ((g5.trans g6).get aI) λd3 k9 k_ jI A7 g7=>?_;exact X5 L m6 hF (S.gr ((((g2.trans g3).trans W).trans Gr.push).trans ((g5.trans g6).trans g7))) q
theorem tD{K:Frag}{h:Heap}{mg:aA}{x:Str}{st:Stmt}{ps:Ap}{f:Addr}{g:Value}{i an:Option Addr}{e:Array (Option Value)}{kV doc pm b ct:Value}(X:K.In h)(G:h.Ns mainGlobals mg)
  (a:nsIn K mainGlobals x=some (some (.ref f)):=by k_is)(l:K.lookup f=some ⟨g,i,.func (fnOf x x (m8 st) (ig st) (aK st) .none kV doc pm an b ct),e⟩:=by k_is)(c:codeIn K b x=true:=by k_is)(k:keepIn K (.ref f)=true:=by k_is)
  (j:∀(kV doc pm:Value) (an:Option Addr) (b ct:Value) (d:BM),d.length=ps.length->bindArgs (fnOf x x (m8 st) (ig st) (aK st) .none kV doc pm an b ct) ⟨d,[]⟩=pure (ps.zip d):=by(intro _ _ _ _ _ _ d hl;rcases d with _|⟨_,_|⟨_,_|⟨_,_|⟨_,_|⟨_,_|⟨_,_⟩⟩⟩⟩⟩⟩<;>first|rfl|(simp at hl))):TopD K mg x st ps:=
 ⟨f,_,AJ l c k,(AJ l c k).binds j,mg_of X G a⟩
theorem bN{K:Frag}{h:Heap}{mg:aA}{x:Str}(X:K.In h)(G:h.Ns mainGlobals mg)(a:nsIn K mainGlobals x=some none:=by k_is):mg x=none:=PySem.W.mg_none_of X G a
theorem eX{K:Frag}{h:Heap}{mg:aA}{x:Str}{v:Value}(X:K.In h)(G:h.Ns mainGlobals mg)(a:nsIn K mainGlobals x=some (some v):=by k_is):mg x=some v:=mg_of X G a
theorem MW{K:Frag}{C:Addr}{a:BM}{newId:String}(q:excIn K C a newId=true):(PySem.W.clsIn K C).isSome=true:=by
 unfold excIn at q;split at q
 .rename_i b
  unfold PySem.W.clsIn;rw[b];rfl
 .cases q
theorem FY{K:Frag}{h:Heap}{mg:aA}{x:Str}{e:Addr}(X:K.In h)(m:mg x=some (.ref e))(h1:findIn K (.ref e) "__getattribute__"=some (some (.builtin "BaseException.__getattribute__")):=by k_is)(h2:findIn K (.ref e) "__getattr__"=some none:=by k_is)
 (a:findIn K (.ref e) "__class__"=some (some (.builtin "object.__class__")):=by k_is)(b:specialIn K (.builtin "object.__class__") "__get__"=some (some (.builtin "getset_descriptor.__get__")):=by k_is)(c:takesIn K (.builtin "object.__class__")=some true:=by k_is)
 (d:mroIn K e (.type "object")=some true:=by k_is)(f:mroIn K e (.type "BaseException")=some true:=by k_is)(x:excIn K e nF "ValueError.__new__"=true:=by k_exc):oh K e:=⟨h1,h2,a,b,c,d,f,MW x⟩
theorem walk{l:PySem.W.OpenLaw}{q:Program}{loose:Ap}{i:(aA)->Heap->Prop}{c:World->Heap->Prop}{d:DefRec}{K:Params->Frag}(j:l.most=some 63)(b:d.params.defaults=[])(m:∀p,(K p).all (λp=>pB p.2)=true)
  (o:∀(w:World) (h:Heap),c w h->(K w.params).In h)
  (F:∀(w:World) (mg:aA) (g:Addr) (h:Heap),(K w.params).In h->h.Ns mainGlobals mg->mg d.name=some (.ref g)->
   ∃fd:FuncData,(∀(s:Shared) (u:Value),BindsTo s fd ⟨[u],[]⟩ [(κa,u)])/\∀base:Heap,(K w.params).In base->base.Ns mainGlobals mg->f9 l.prog w (K w.params) mg base (bU l.prog w) 26 g fd [κa] rA):
  PySem.W.WalkO q loose i c l.row.toRowW d [] (λf vs=>PySem.call f vs):=
 L2.YA (n:=63) (k:=26) (x:=κa) (CX:=λw=>bU l.prog w) (sp:=λ_=>rA) j δ b ⟨rfl,δ,δ⟩ o F (λw H a ns _ r t=>P8 (m w.params) r t) λw H s e s' z=>by
  obtain⟨_,_,_,_,_,z⟩:=z
  exact z
theorem RX{P:Program}{w:World}{K:Frag}{h:Heap}{mg:aA}{o j:Addr}{k b:Option Addr}{l:Array (Option Value)}{m c d g a i:Value}(X:K.In h)(G:h.Ns mainGlobals mg)(n:mg "law"=some (.ref o))
  (p:nsIn K mainGlobals "law"=some (some (.ref j)))(q:K.lookup j=some ⟨m,k,.func (fnOf "law" "law" (m8 mw) (ig mw) (aK mw) .none c d g b a i),l⟩)(r:codeIn K a "law"=true)(k3:keepIn K (.ref j)=true)
  (go:∀(base:Heap) {f:Addr} {fd:FuncData},lO K "law" "law" mw f fd->f9 P w K mg base (bU P w) 26 f fd BN rA):
  ∃fd:FuncData,(∀(s:Shared) (v:Value),BindsTo s fd ⟨[v],[]⟩ [(κa,v)])/\∀base:Heap,K.In base->base.Ns mainGlobals mg->f9 P w K mg base (bU P w) 26 o fd [κa] rA:=by
 have e:=n.symm.trans (mg_of X G p)
 cases e
 exact⟨fnOf "law" "law" (m8 mw) (ig mw) (aK mw) .none c d g b a i,λs v=> .of_eq rfl,λbase _ _=>go base (AJ q r k3)⟩
end L2
end
open PySem PySem.W PyProof.Rows
set_option maxHeartbeats 0
structure PySem.W.Fast:Prop where (tw15032258006968258975 tw861502493610598483 tw18430476961869974472 tw14973956641053794197 tw7774113678449685934 tw4201305077752651686 tw3244086316793181374 tw14196385902569759983 tw13519031799517361783 tw4225071011193888407 tw5008408621672944243 tw16117581692374023426 tw771822569319705768 tw7001957589650049515 tw17604482065379873290 tw10741264400317747893 tw17029562028150658980 tw14782954611325821827 tw4903002758410956813 tw15590096980072825465 tw17724038513149304489 tw1478030337931831861 tw18146532975450069615 tw2786648768249225349 tw6512149657230936976 tw16902440903046159558 tw15163409612377130007 tw6542358382571353910 tw11153475782318119604 tw3365755272349913518 tw17653592248189364939 tw10888863842102328177 tw9113380124883318265 tw15541240446876304647 tw14847308668706973960 tw9197174079833555027 tw209982475168477708 tw6060609690816243450 tw14074196154385387334 tw14961746396406840608 tw5285915839522022235 tw11962351593759143498 tw6216382948874008006 tw9848817304349107530 tw1972164579936704799 tw7485256538410118956 tw17267597263503486738 tw1719895430356276633 tw13114645530532618160 tw2466311954974566718 tw8157277791214410489 tw726351398001015727 tw15240619367488684849 tw14219159868682941630 tw4493901809537577575 tw16756451883985382160 tw6105849179199505303 tw12798174099139212305 tw1956260828630720203 tw15173544498738437827 tw2931988195819169919 tw5323657890516693427 tw9399754086935153974 tw14170518179582410385 tw855453113358079251 tw6548459193220583526 tw1532491051758110099 tw14963028359598502718 tw12099505692703838030 tw4804111812005502284 tw17691633702590694504 tw9784134513789038367 tw4607425872040536859 tw14746253646979254834 tw10551173667578312727 tw12903330217458380548 tw2135409205425526673 tw14727194681476072466 tw2259672571474061568 tw866652123128751154 tw615563214671542189 tw9331231397406362311 tw2228412568605170491 tw13946496683202179788 tw15861351967447197489 tw514280064592716601 tw15779231459743154856 tw17170472223608059050 tw7867829370405329436 tw8285278889055680438 tw17613222154834848340 tw3300257896294614128 tw8159993647027272844 tw4323258101793500111 tw28018229315631829 tw6162269159774324313 tw6427576097997697322 tw2080317491765294665 tw16248296213531012650 tw1725486776273817318 tw12297992134047619483 tw11662115353561507501 tw1956775160557780875 tw17659185236578331656 tw16636501806038632012 tw15214748959534726111 tw14226173905949225808 tw13437419889732721216 tw15685335758407661847 tw13053770412826190925 tw7480016910919988345 tw6968137755033780318 tw16654469307462801742 tw3953844824629472508 tw5994696166404524948 tw14592624751514493413 tw5217270863462422736 tw15577281813014381367 tw15895094517606616290 tw12740759652641322565 tw11024694936033576346 tw10698057553749749337 tw15166322114958858414 tw10295913840692754127 tw11513857634932158529 tw8080008513338510535 tw9536688357841153863 tw12670982853097334264 tw1205274952441263945 tw256976265262469064 tw16607193741793207195 tw15254633091992210921 tw6170744672141170255 tw2694234056635809718 tw5289818103960998278 tw18183970276198133131 tw6782663255696616371 tw4171853373547519906 tw6248682570935725439 tw6148498323302512570 tw13855379610559885079 tw15433366417846715934 tw14689541978594310382 tw9402243437249704421 tw5344687154915797982 tw10624116801336726872 tw2358075552688931204 tw13034982811429478159 tw10042083083395451092 tw16493865465440409018 tw4906484309439969231 tw11384182702204212275 tw8431482922422412695 tw6858818405166986180 tw14664691819916384248 tw2741014181512449073 tw10910644110388302437 tw4734895289157585001 tw4480162626587320490 tw17214186515701724070 tw3419001889969749887 tw16723463757517087524 tw16279288168775177219 tw14842496431369740429 tw6356304189028158447 tw10510056951384868246 tw3300454383303005205 tw2483420100392427323 tw446995266069924076 tw4849480874435393781 tw12188032599808994241 tw18073898193381586223 tw6229817132586351632 tw3382625519597670723 tw2789304352393801511 tw2646887283097553488 tw2261719852989239553 tw18157406047293677543 tw14904681115217272601 tw13135312941875745310 tw140001813534094272 tw2107523057676978006 tw8739830900816887780 tw5101696844757716304 tw4075453323654395381 tw11898673842065290130 tw9860861378791804195 tw14424681132571578402 tw16864618592142003386 tw14935467056822913822 tw3239113980409921550 tw3543459598558145280 tw8733291241859026926 tw87601786513091389 tw11564986514327137767 tw12382822922155266910 tw2941924889016668590 tw14404928986312190071 tw14520296925931582552 tw8535803893964050539 tw1979317910248211280 tw7933485763601977624 tw8997383693586321770 tw896878414759379649 tw14958820412457663293 tw258204147387103276 tw10826640976665885199 tw15227483606004533461 tw13444670453868202053 tw11266997524610791606 tw1937721966566455358 tw547895379624588593 tw140236481695663071 tw740290905518256060 tw16682895059504647277 tw6607644564249050058 tw14560624547652848805 tw772564365185477556 tw16120054744476736488 tw9947508896943372755 tw16226643914720891334 tw8318101203651539667 tw6030501089693204938 tw3049343062529576306 tw1401067106901849026 tw4309217394794523951 tw3721919958574915784 tw18328257000508772394 tw12314708539913122752 tw9592521066531166775 tw9646623106273453227 tw4015202173357781934 tw3713540243193553862 tw3110587219445414310 tw1293241653719404408 tw3919386906821981792 tw542563422162235373 tw7374399212775623666 tw12770481643036789091 tw12431713363859531893 tw9689729476882780088 tw2595585439558603231 tw1950803216711332702 tw18367749455379333440 tw16217903435359918192 tw15925456577456769635 tw15235614512728720 tw1205604411410820431 tw599730875272715187 tw2399617604181995578 tw3671519592330383864 tw12768989823518198380 tw10510019762269167821 tw8331849164307833061 tw6557801498797044033 tw1142673529048489019 tw5622701340561072331 tw4699756791338806529 tw18383651708701053236 tw9387514328989991554 tw8002303944043701648 tw14993981098963755598 tw1922157984580058403 tw1342123614928995077 tw13160504802963445071 tw12138319994727072339 tw10519837036962490867 tw9879335643197240621 tw8737599933303070863 tw6575520176995025181 tw13769103115541136327 tw13055953723892786844 tw16053306600634468012 tw8972062959192195235 tw2692750590507578028 tw10016166984437732892 tw4953865588907285216 tw17852080271459398996 tw9116068151291705539 tw13622603851894308203 tw13810262117814702294 tw14243238205550065757 tw6702445572142316249 tw5872530126848033075 tw1915925776726481438 tw4547051000311932777 tw16766683885213920930 tw17435391645217708394 tw9582823730064241283 tw15528221797031607849 tw938635154573522699 tw18437792190763421558 tw13469501207593853456 tw9464783005390448368 tw17744993626210230056 tw8498532028676091811 tw7046044490832178742 tw4046790133079468173 tw2576523973992343609 tw5002640475654186023 tw2827255003249426055 tw1864683662541468164 tw9456574344343218679 tw896239598344801917 tw8912161614967838395 tw5438652380644606353 tw4635989785427082552 tw3985964047577975286 tw16409965706819354750 tw13757698761724263525 tw12772213712371865176 tw866717566613908145 tw6408400580700104982 tw17464319187374939960 tw12269216009862288129 tw17062427158221528723 tw16615150188913437886 tw13913613514976480042 tw12777185471883872004 tw643336161829623379 tw10374632558016547081 tw17678831435119133177 tw2244103112122482387 tw4548300405975405348 tw447263597446747957 tw16822532161544500889 tw11066385474520676512 tw5000232492035539693 tw8219003486749837733:True)
open L2 MA
open_top hd for PySem.Challenge.rw_hangstill_k07_whole_halls
theorem PySem.Challenge.cw_hangstill_k07_whole_halls_holds : PySem.Challenge.rw_hangstill_k07_whole_halls.Holds := by
 refine hd ?_;k_fill;refine L2.walk (l:=PySem.Challenge.rw_hangstill_k07_whole_halls) rfl rfl ?K (λw h Y=>PySem.W.kIn_of Y) ?F;case K=>exact λp=>(Eq.refl true:true=true)
 case F=>
  intro w mg fa h KX G hmg;refine' L2.RX KX G hmg ?aL ?lL ?cL ?kL ?Qi;(case aL=>k_is);(case lL=>k_is);(case cL=>k_is);(case kL=>k_is);case Qi=>
   intro base f fd T;have Sx:mg "HangError"=some _:=eX KX G;have Hw:mg "NoMobile"=some _:=eX KX G;have jk:mg "NoHall"=some _:=eX KX G;have BA:mg "NoWeights"=some _:=eX KX G;have Sz:mg "NoWay"=some _:=eX KX G;have Sy:mg "NoNumber"=some _:=eX KX G;have jj:mg "Never"=some _:=eX KX G;have SD:mg "TooLong"=some _:=eX KX G;have SA:mg "TooDeep"=some _:=eX KX G;have mH:=FY KX jk;have mG:=FY KX jj;have zm:=O8 (P:=PySem.Challenge.rw_hangstill_k07_whole_halls.prog) (w:=w) (base:=base) (tD KX G) (bN KX G) (bN KX G) (bN KX G);have Dh:=O7 (P:=PySem.Challenge.rw_hangstill_k07_whole_halls.prog) (w:=w) (base:=base) (tD KX G) (bN KX G) (bN KX G) (bN KX G) (bN KX G) (eX KX G);have LD:=O5 (tD KX G) (bN KX G) (bN KX G) (bN KX G) (bN KX G) (eX KX G) Dh zm 6;have Dg:=Pk (tD KX G) (eX KX G) LD;have C8:=OT (tD KX G) Hw (by k_exc) Dg;have C9:=OY (P:=PySem.Challenge.rw_hangstill_k07_whole_halls.prog) (w:=w) (base:=base) (tD KX G);have Dl:=PC (tD KX G) C9;have Dj:=Pw (tD KX G) Dl;have LR:=Pz (tD KX G) Dl;have LX:=PM (tD KX G) Dj 6;have Dq:=PL (tD KX G) C8 LX;have Lu:=ON (tD KX G) Dq;have LN:=Pq (tD KX G) (bN KX G) Dq;have LZ:=PR (P:=PySem.Challenge.rw_hangstill_k07_whole_halls.prog) (w:=w) (base:=base) (tD KX G) (bN KX G);have LP:=Px (tD KX G) (bN KX G) LZ;have zl:=OZ (tD KX G) LP;have Lv:=OP (P:=PySem.Challenge.rw_hangstill_k07_whole_halls.prog) (w:=w) (base:=base) (tD KX G) (bN KX G);have zj:=OV (tD KX G) Dj LR;have Lz:=OU (P:=PySem.Challenge.rw_hangstill_k07_whole_halls.prog) (w:=w) (base:=base) (tD KX G) (bN KX G) (bN KX G);have Dm:=PF (tD KX G) zl Lz Lv zj;have Di:=Pp (tD KX G) jj (by k_exc) Dm;have Ly:=OS (tD KX G) (bN KX G) (bN KX G) (bN KX G) (eX KX G) jk (by k_exc) Dg Lu;have vj:=O2 (tD KX G) Ly LN;have LM:=Po (tD KX G) (bN KX G) (bN KX G) (bN KX G) (eX KX G) Dh zm;have LG:=O_ (tD KX G) (bN KX G) (bN KX G) (bN KX G) (bN KX G) (bN KX G) LM;have De:=Pb (P:=PySem.Challenge.rw_hangstill_k07_whole_halls.prog) (w:=w) (base:=base) (tD KX G) 8;have LH:=Pe (tD KX G) (bN KX G) De;have Lw:=OQ (tD KX G) BA (by k_exc) LG;have LA:=OW (tD KX G) (bN KX G) BA (by k_exc) Lw De;have LQ:=Py (tD KX G) LH;have L0:=PU (tD KX G) LQ 6;have L1:=PV (tD KX G) (bN KX G) C8 LA L0;have LY:=PN (tD KX G) L1;have LI:=Pf (tD KX G) C9;have LJ:=Ph (tD KX G) (bN KX G) (bN KX G) (bN KX G) LI;have C_:=O0 (tD KX G) (bN KX G) zj;have L3:=PX (tD KX G) (bN KX G) (bN KX G) vj Di zl LJ C_;have LU:=PD (tD KX G) vj Dm;have LF:=O9 (tD KX G) (bN KX G) (bN KX G) (bN KX G) (bN KX G) zm;have LC:=O4 (P:=PySem.Challenge.rw_hangstill_k07_whole_halls.prog) (w:=w) (base:=base) (tD KX G) (bN KX G) (bN KX G) (bN KX G);have Dd:=O6 (tD KX G) (bN KX G) (bN KX G) (bN KX G) vj LF LC zj;have LV:=PJ (tD KX G) (bN KX G) vj (F3 (x:="check_told") (st:=VZ) (ps:=HZ) (tD KX G)) Di zl (F3 (x:="settled_group") (st:=V0) (ps:=H8) (tD KX G)) C_;have Lx:=OR (P:=PySem.Challenge.rw_hangstill_k07_whole_halls.prog) (w:=w) (base:=base) (tD KX G) (bN KX G);have LK:=Pj (tD KX G) Lx;have zk:=OX (tD KX G) (bN KX G) LK;have zo:=Pu (tD KX G) (bN KX G) zk;have Df:=Pd (P:=PySem.Challenge.rw_hangstill_k07_whole_halls.prog) (w:=w) (base:=base) (tD KX G) 8;have LO:=Pr (tD KX G) (bN KX G) (bN KX G) zk zo 3;have LB:=O1 (tD KX G) (bN KX G) (bN KX G) (bN KX G) zk zo LO;have vm:=Pc (P:=PySem.Challenge.rw_hangstill_k07_whole_halls.prog) (w:=w) (base:=base) (tD KX G);have LW:=PK (tD KX G) vm 3;have zh:=OO (tD KX G) (bN KX G) (bN KX G) (bN KX G) Df LW;have Dc:=O3 (tD KX G) (bN KX G) (bN KX G) zh vm;have LS:=PB (tD KX G) vm;have Lr:=OL (tD KX G) (bN KX G) (bN KX G) zh Dc LS;have LL:=Pn (tD KX G) (bN KX G) (bN KX G) Df;have L5:=PY (P:=PySem.Challenge.rw_hangstill_k07_whole_halls.prog) (w:=w) (base:=base) (tD KX G) (bN KX G) (bN KX G) Hw jk BA Sz Sy jj SD SA (b9.cons jk mH (by kit_is) (b9.cons jj mG (by kit_is) b9.nil)) (b9.cons jk mH (by kit_is) (b9.cons jj mG (by kit_is) b9.nil)) (b9.cons jk mH (by kit_is) (b9.cons jj mG (by kit_is) b9.nil)) (b9.cons jk mH (by kit_is) (b9.cons jj mG (by kit_is) b9.nil)) (b9.cons jk mH (by kit_is) (b9.cons jj mG (by kit_is) b9.nil)) (b9.cons jk mH (by kit_is) (b9.cons jj mG (by kit_is) b9.nil)) (b9.cons jk mH (by kit_is) (b9.cons jj mG (by kit_is) b9.nil)) (b9.cons jk mH (by kit_is) (b9.cons jj mG (by kit_is) b9.nil)) (b9.cons jk mH (by kit_is) (b9.cons jj mG (by kit_is) b9.nil));have Ls:=OM (tD KX G) Sx jk jj (by kts_exm) (by kts_exm) L3 LU Dd LV L5;exact(Pa T (bN KX G) (bN KX G) (bN KX G) (bN KX G) (bN KX G) (bN KX G) zo LB Ls zh Dd Lr vm LL LY Dc).imp λvs H Q E h=>W9 h
