import PyProof.Rows.All
import Wide.All
import OpenK.AllK
import PySem.Challenge.RW_hangstill_k09_whole_settled
set_option Elab.async false
set_option linter.all false
set_option maxRecDepth 100000
set_option maxHeartbeats 4000000
set_option compiler.extract_closed false
set_option compiler.maxRecSpecialize 0
noncomputable section
theorem ω{p:Prop}(h:p:=by omega):p:=h
theorem δ{p:Prop}(h:p:=by decide):p:=h
theorem η{p:Prop}(h:p:=by decide+kernel):p:=h
theorem θ{p:Prop}(h:p:=by simp):p:=h
theorem Z2(_:True:=by first|exact .inl rfl|exact .inr rfl|assumption):True:=⟨⟩
def Zw:Lean.Syntax:=Z2._auto_1
open PySem.Heap (DictOf ExtBut FlyingW SameBut get?_push_ne)
open Option (getD_none getD_some isSome_map map_some)
open PySem.W (Frag callWith_K cellsFrom_some codeIn codeRec_of excIn exmOne findIn fnOf hideAll hideAll_get instObj kat_kind kdl_dict keepIn kitOne kitx_dict kitx_list kitx_tuple lookIn methodObj mg_of mroIn nsIn of_hideAll plainGet specialIn takesIn)
open Nat (log2_lt lt_trans succ_pos zero_add)
open List (Pairwise Perm any_map append_assoc countP_map find?_append forIn_cons forIn_nil getElem?_inj le_antisymm length_nil length_set length_zip lookup_cons map_id map_id' map_nil of_mem_zip range replicate set_set take_length)
open Array (size_append toList)
open Bool (or_eq_true)
open Int (add_comm dvd_trans gcd_dvd_left le_of_dvd one_mul)
open PySem.F (args_tuple_add_2 called_tuple entry_tuple_add slot_dict_update slot_tuple_add)
open PySem.PyData (canLay0 canLayAll0 depthAll eqvAll)
abbrev De:=@PyProof.Rows.callWith_builtin1
abbrev mK:=@PyProof.Rows.callWith_type1
abbrev rO:=@PySem.F.slot_list_append
abbrev Di:=@PySem.F.slot_list_getattribute
abbrev Dv:=@PySem.F.slot_tuple_getattribute
abbrev rX:=@PySem.F.type_list_append
abbrev j4:=@PySem.Around.under_plainId
abbrev gw:=@Array.getElem?_eq_getElem
abbrev sd:=@Array.getElem?_eq_none
abbrev zB:=@Array.getElem?_eq_some_iff
abbrev Df:=@Array.perm_iff_toList_perm
abbrev y_:=@Bool.and_false
abbrev pS:=@Bool.eq_iff_iff
abbrev cC:=@Bool.false_ne_true
abbrev zc:=@PySem.Calls.call_function_entry
abbrev vd:=@PySem.Calls.spliced_cons
abbrev vf:=@PySem.Calls.spliced_nil
abbrev nK:=@Classical.choose_spec
abbrev Dg:=@PyProof.Rows.F.plain_set_update_loop
abbrev zl:=@PySem.F.slot_zip_next
abbrev dM:=@Int.le_of_lt
abbrev p7:=@Int.le_refl
abbrev fh:=@Int.le_trans
abbrev rT:=@Int.lt_of_lt_of_le
abbrev zu:=@Int.mul_ediv_cancel_left
abbrev rV:=@Int.mul_le_mul_of_nonneg_left
abbrev zv:=@Int.mul_le_mul_of_nonneg_right
abbrev fW:=@Int.ne_of_gt
abbrev vt:=@PyProof.Rows.KeyOrd.kle_of_klt
abbrev p9:=@PyProof.Rows.KeyOrd.kle_refl
abbrev p_:=@PyProof.Rows.KeyOrd.kle_trans
abbrev zw:=@List.eraseIdx_eq_take_drop_succ
abbrev Dj:=@List.filterMap_cons
abbrev Dl:=@List.filter_cons_of_neg
abbrev Dm:=@List.filter_cons_of_pos
abbrev Dq:=@List.getElem?_cons_succ
abbrev bK:=@List.getElem?_eq_some_iff
abbrev zx:=@List.getElem?_replicate
abbrev Ds:=@List.getElem?_zipIdx
abbrev kP:=@List.lt_irrefl
abbrev vv:=@List.lt_trans
abbrev mR:=@PySem.Obj.data_mapFields
abbrev Dw:=@PySem.Obj.isFreed_of_fields
abbrev iE:=@PySem.boot_len
abbrev qa:=@PySem.mem_of_lookup
abbrev rW:=@Rat.div_def
abbrev gv:=@Rat.intCast_mul
abbrev vz:=@Rat.inv_pos
abbrev mS:=@Rat.mul_pos
abbrev nP:=@List.all_eq_true
abbrev fX:=@Bool.and_eq_true
abbrev qc:=@List.any_cons
abbrev jZ:=@List.any_eq_true
abbrev lN:=@List.append_nil
abbrev zy:=@PyProof.Rows.args_list_sort
abbrev nQ:=@bne_self_eq_false
abbrev rY:=@PyProof.Rows.boot_list
abbrev lO:=@PyProof.Rows.boot_tuple
abbrev qd:=@PySem.builtinLookup_eq_fast
abbrev mT:=@PySem.call_meets
abbrev nR:=@PySem.F.called_set
abbrev ji:=@PySem.codeAny_builtin
abbrev Dy:=@PySem.codeAny_call_builtin
abbrev qe:=@PySem.codeAny_mono
abbrev bM:=@congrArg
abbrev d8:=@decide_eq_false
abbrev Dz:=@decide_eq_false_iff_not
abbrev dg:=@decide_eq_true
abbrev jj:=@decide_eq_true_eq
abbrev mU:=@List.drop_eq_getElem_cons
abbrev rZ:=@List.drop_eq_nil_of_le
abbrev r8:=@Int.ediv_le_self
abbrev vA:=@Int.emod_lt_of_pos
abbrev vB:=@Int.emod_nonneg
abbrev zz:=@PyProof.Rows.entry_list_sort
abbrev r9:=@List.ext_getElem?
abbrev j5:=@Bool.false_eq_true
abbrev lQ:=@List.find?_cons
abbrev nS:=@List.find?_eq_none
abbrev r_:=@List.find?_some
abbrev zA:=@PySem.fits_of_scanBound
abbrev qf:=@List.flatMap_append
abbrev nU:=@List.flatMap_cons
abbrev nV:=@List.foldl_append
abbrev iF:=@List.foldl_cons
abbrev bu:=@PySem.Heap.get?_push_of_some
abbrev cS:=@PySem.Heap.get?_push_size
abbrev nW:=@PySem.Heap.get?_update_other
abbrev j6:=@PySem.Heap.get?_update_self
abbrev lR:=@Array.getD_eq_getD_getElem?
abbrev cO:=@List.getD_eq_getElem?_getD
abbrev iG:=@List.getElem?_append_left
abbrev sf:=@List.getElem?_append_right
abbrev aS:=@List.getElem?_eq_getElem
abbrev nX:=@List.getElem?_eq_none
abbrev bz:=@List.getElem?_map
abbrev eF:=@List.getElem?_set_ne
abbrev eG:=@List.getElem?_set_self
abbrev nY:=@Array.getElem?_toList
abbrev sj:=@List.getElem?_zip_eq_some
abbrev jV:=@List.getElem_mem
abbrev jW:=@List.getElem_of_mem
abbrev gS:=@if_false
abbrev av:=@if_neg
abbrev aB:=@if_pos
abbrev nF:=@if_true
abbrev pQ:=@Option.isSome_iff_exists
abbrev jg:=@PySem.W.kia_one
abbrev lK:=@Nat.le_add_right
abbrev u7:=@Nat.le_max_left
abbrev u9:=@Nat.le_max_right
abbrev gK:=@Nat.le_of_lt
abbrev aJ:=@Nat.le_refl
abbrev nG:=@Nat.le_succ
abbrev d7:=@Nat.le_trans
abbrev eE:=@List.length_append
abbrev iA:=@List.length_cons
abbrev aM:=@List.length_map
abbrev za:=@List.length_pos_iff
abbrev pR:=@List.length_range
abbrev pT:=@List.length_take
abbrev iB:=@Array.length_toList
abbrev zb:=@List.length_zipIdx
abbrev gu:=@Nat.lt_irrefl
abbrev pU:=@Int.lt_of_le_of_lt
abbrev dj:=@Nat.lt_of_lt_of_le
abbrev aW:=@PySem.Heap.lt_size
abbrev jh:=@Nat.lt_succ_of_lt
abbrev pV:=@Nat.lt_succ_self
abbrev c_:=@List.map_append
abbrev mL:=@List.map_congr_left
abbrev cM:=@List.map_cons
abbrev br:=@List.map_map
abbrev bR:=@List.mem_append
abbrev nH:=@List.mem_append_left
abbrev jx:=@List.mem_append_right
abbrev bx:=@List.mem_cons
abbrev bq:=@List.mem_cons_of_mem
abbrev bw:=@List.mem_cons_self
abbrev nI:=@List.mem_filter
abbrev u_:=@List.mem_filterMap
abbrev fG:=@List.mem_flatMap
abbrev aP:=@List.mem_map
abbrev cZ:=@List.mem_map_of_mem
abbrev mO:=@List.mem_of_find?_eq_some
abbrev cF:=@List.mem_of_getElem?
abbrev vc:=@List.mem_of_mem_take
abbrev pW:=@List.mem_range
abbrev bS:=@List.mem_singleton
abbrev rG:=@List.mem_zipIdx_iff_getElem?
abbrev mP:=@Int.mul_assoc
abbrev nJ:=@Int.mul_comm
abbrev dc:=@Int.mul_le_mul
abbrev rH:=@Int.mul_nonneg
abbrev dm:=@Int.mul_pos
abbrev ve:=@Int.natCast_pow
abbrev mQ:=@Nat.ne_of_gt
abbrev bG:=@Nat.ne_of_lt
abbrev fm:=@List.nil_append
abbrev jX:=@List.nodup_append
abbrev kJ:=@List.nodup_cons
abbrev pX:=@List.nodup_nil
abbrev vg:=@Bool.not_eq_true'
abbrev kK:=@List.not_lt
abbrev iR:=@List.not_mem_nil
abbrev fu:=@of_decide_eq_true
abbrev iS:=@or_false
abbrev iC:=@List.pairwise_cons
abbrev jy:=@List.pairwise_map
abbrev zd:=@PySem.F.plainAttrs_dict
abbrev iD:=@PySem.F.plainAttrs_list
abbrev kM:=@PySem.plainId_quiet
abbrev vh:=@PySem.F.plain_extend_loop
abbrev ze:=@PySem.F.plain_list_iadd
abbrev iT:=@Nat.pow_le_pow_right
abbrev nL:=@Int.pow_nonneg
abbrev jz:=@Int.pow_succ
abbrev zf:=@List.set_append_left
abbrev kN:=@PySem.sizeLine_eq
abbrev gU:=@PySem.Heap.size_push
abbrev rJ:=@PyProof.Rows.size_push'
abbrev cE:=@List.size_toArray
abbrev pY:=@PySem.Heap.size_update
abbrev pZ:=@PySem.F.slot_list_extend
abbrev zg:=@PyProof.Rows.slot_list_sort
abbrev zh:=@PyProof.Rows.sortedHeap_at
abbrev zj:=@PyProof.Rows.sortedHeap_old
abbrev vj:=@List.take_of_length_le
abbrev rK:=@List.take_succ
abbrev zk:=@Array.toArray_toList
abbrev rL:=@Int.toNat_natCast
abbrev zm:=@PySem.tupleKind_room_in1
abbrev p5:=@PySem.typeLookup_type
abbrev rM:=@PySem.F.type_list_extend
abbrev kO:=@PySem.wpAny_Call_Name_kw
abbrev nM:=@PySem.wpAny_attempt
abbrev ai:=@PySem.wpAny_bind
abbrev rN:=@PySem.wpAny_callSpecial?_slot
abbrev jY:=@PySem.wpAny_call_entry
abbrev vm:=@PySem.wpAny_execs_nil
abbrev nN:=@PySem.wpAny_field
abbrev zo:=@PySem.wpAny_fieldsOf
abbrev fV:=@PySem.wpAny_holding
abbrev zp:=@PySem.wpAny_isInstance
abbrev zq:=@PySem.wpAny_loadPart'
abbrev jA:=@PySem.wpAny_mono
abbrev vn:=@PySem.wpAny_newList
abbrev jB:=@PySem.wpAny_newObj_type
abbrev Dh:=@PySem.wpAny_nextOf_list_item
abbrev p6:=@PySem.wpAny_passesOwn
abbrev aK:=@PySem.wpAny_pure
abbrev vo:=@PySem.wpAny_pyIter_list
abbrev lM:=@PySem.wpAny_rule
abbrev rP:=@PySem.wpAny_seqItems
abbrev vp:=@PySem.wpAny_setEntries_of
abbrev rQ:=@PySem.wpAny_setField
abbrev rR:=@PySem.wpAny_setState_of
abbrev vq:=@PySem.wpAny_standAt
abbrev nO:=@PySem.wpAny_truthy_bool
abbrev p8:=@PySem.wpAny_typeOf
abbrev rS:=@PySem.wpAny_updateSeq
abbrev b_:=@Nat.zero_le
section
open PySem
abbrev Ap:=List Str
abbrev BM:=List Value
abbrev Dx:=List Nat
abbrev DD:=List Expr
abbrev D1:=List Addr
abbrev Fh:=List Env
abbrev Fn:=List Int
abbrev Fs:=List PyData
abbrev Fu:=List Rat
abbrev FC:=List Bool
abbrev FK:=List Stmt
abbrev FR:=List Keyword
abbrev ay:=Str->Option Value
abbrev aV:=Value->Shared->Prop
abbrev aZ:=List (Addr×Obj)
end
section
open PySem PySem.Spec PyProof.Rows
namespace L2
abbrev Key:=Sum Int Str
abbrev _root_.Ee:=List Key
noncomputable def kC:Key->Value->Bool
 |.inl k,v=>Value.isInt k v
 |.inr x,v=>Value.isStrOf x v
noncomputable def Sj(w:World):Key->Int
 |.inl k=>hashInt k
 |.inr x=>hashStr w x
theorem ja:∀{k:Key} {v:Value},kC k v=true->(∃i t,k=Sum.inl i/\v=Value.int i t)\/(∃x t,k=Sum.inr x/\v=Value.str x t)
 |.inl i,v,h=>by
  obtain⟨t,e⟩:=Value.isInt_shape (k:=i) (v:=v) h;exact .inl ⟨i,t,rfl,e⟩
 |.inr x,v,h=>by
  obtain⟨t,e⟩:=Value.isStrOf_shape (x:=x) (v:=v) h;exact .inr ⟨x,t,rfl,e⟩
theorem Sk(i:Int)(t:Tok):kC (.inl i) (.int i t)=true:=by simp[kC,Value.isInt]
theorem Sl(x:Str)(t:Tok):kC (.inr x) (.str x t)=true:=by simp[kC,Value.isStrOf]
theorem Sm(a b:Int):decide ((Sum.inl a:Key)=Sum.inl b)=(a==b):=by
 by_cases e:a=b
 .subst e;simp
 .have h:¬(Sum.inl a:Key)=Sum.inl b:=λq=>e (Sum.inl.inj q)
  rw[d8 h];exact(beq_eq_false_iff_ne.mpr e).symm
theorem Sq(a b:Str):decide ((Sum.inr a:Key)=Sum.inr b)=decide (a=b):=by
 by_cases e:a=b
 .subst e;simp
 .have h:¬(Sum.inr a:Key)=Sum.inr b:=λq=>e (Sum.inr.inj q)
  rw[d8 h,d8 e]
theorem Sn(a:Int)(b:Str):decide ((Sum.inl a:Key)=Sum.inr b)=false:=d8 (λq=>nomatch q)
theorem So(a:Str)(b:Int):decide ((Sum.inr a:Key)=Sum.inl b)=false:=d8 (λq=>nomatch q)
noncomputable def c9(prog:Program)(w:World):PySem.KeyKind prog w Key where
 is:=kC
 hash:=Sj w
 inj:=λv a b ha hb=>by
  rcases ja ha with⟨i,t,rfl,rfl⟩|⟨x,t,rfl,rfl⟩
  .rcases ja hb with⟨j,u,rfl,e⟩|⟨y,u,rfl,e⟩
   .injection e with e1 _;rw[e1]
   .exact nomatch e
  .rcases ja hb with⟨j,u,rfl,e⟩|⟨y,u,rfl,e⟩
   .exact nomatch e
   .injection e with e1 _;rw[e1]
 byValue:=λk v h=>by
  rcases ja h with⟨i,t,rfl,rfl⟩|⟨x,t,rfl,rfl⟩<;>rfl
 pyHash:=λhv h=>by
  rcases ja hv with⟨i,t,rfl,rfl⟩|⟨x,t,rfl,rfl⟩
  .exact wpAny_pyHash_int h
  .exact wpAny_pyHash_str h
 eqBool:=λhu hv h=>by
  rcases ja hu with⟨i,t,rfl,rfl⟩|⟨x,t,rfl,rfl⟩
  .rcases ja hv with⟨j,u,rfl,rfl⟩|⟨y,u,rfl,rfl⟩
   .rw[Sm] at h;exact wpAny_eqBool_int h
   .rw[Sn] at h;exact SeqAt.EqAt.int_str i t y u _ _ _ _ h
  .rcases ja hv with⟨j,u,rfl,rfl⟩|⟨y,u,rfl,rfl⟩
   .rw[So] at h;exact SeqAt.EqAt.str_int x t j u _ _ _ _ h
   .rw[Sq] at h;exact wpAny_eqBool_str h
 «strs»:=λk x t v h=>by
  rcases ja h with⟨i,u,rfl,e⟩|⟨y,u,rfl,e⟩
  .exact nomatch e
  .injection e with e1 _
   subst e1
   cases v<;>rfl
theorem Tv(prog:Program)(w:World)(i:Int)(t:Tok):(c9 prog w).is (.inl i) (.int i t)=true:=Sk i t
theorem Tz(prog:Program)(w:World)(x:Str)(t:Tok):(c9 prog w).is (.inr x) (.str x t)=true:=Sl x t
inductive V where
 |aD|bl (b:Bool)|int (i:Int)|str (x:Str)|kh (b:Array UInt8)|qJ (b:UInt64)|ref (a:Addr)|ty (n:String)
 deriving DecidableEq
abbrev _root_.Bn:=List V
def RelV:V->Value->Prop
 |.aD,u=>u=Value.none
 |.bl b,u=>u=Value.bool b
 |.int i,u=>∃t,u=Value.int i t
 |.str x,u=>∃t,u=Value.str x t
 |.kh b,u=>∃t,u=Value.bytes b t
 |.qJ b,u=>∃t,u=Value.float b t
 |.ref a,u=>u=Value.ref a
 |.ty n,u=>u=Value.type n
abbrev Vals:Bn->BM->Prop:=Paired RelV
theorem Vals.length{xs:Bn}{a:BM}(r:Vals xs a):xs.length=a.length:=Paired.length r
theorem Vals.get:∀{xs:Bn} {a:BM} {i:Nat} {x:V},Vals xs a->xs[i]?=some x->∃u,a[i]?=some u/\RelV x u
 |_,_,_,_,.nil,e=>by simp at e
 |_,_,0,_,.cons r _,e=>by simp at e;subst e;exact⟨_,rfl,r⟩
 |_,_,i+1,x,.cons _ t,e=>by
  obtain⟨u,h1,h2⟩:=Vals.get (i:=i) (x:=x) t (by simpa using e);exact⟨u,by simpa using h1,h2⟩
theorem Vals.set{x:V}{u:Value}(r:RelV x u):∀{xs:Bn} {a:BM} (i:Nat),Vals xs a->Vals (xs.set i x) (a.set i u)
 |_,_,_,.nil=>.nil
 |_,_,0,.cons _ t=>.cons r t
 |_,_,i+1,.cons q t=>.cons q (Vals.set r i t)
theorem Vals.append:∀{xs ys:Bn} {a ws:BM},Vals xs a->Vals ys ws->Vals (xs++ys) (a++ws)
 |_,_,_,_,.nil,s=>s
 |_,_,_,_,.cons r t,s=>.cons r (Vals.append t s)
def iJ:Option V->Option Value->Prop
 |some v,some u=>RelV v u
 |none,none=>True
 |_,_=>False
def KV{κ:Type}:List (κ×V)->List (κ×Value)->Prop:=Paired λ(p:κ×V) (q:κ×Value)=>p.1=q.1/\RelV p.2 q.2
noncomputable def kV:Key->V
 |.inl i=>.int i
 |.inr x=>.str x
def oh(h:Heap)(a:Addr)(items:Array Value):Prop:=∃n,h.get? a=some {cls:=.type "tuple",data:=.seq items n}
theorem oh.is{h:Heap}{a:Addr}{items:Array Value}(x:oh h a items):IsTup h a items:=let ⟨n,e⟩:=x;⟨_,e,rfl,n,rfl⟩
theorem oh.new(h:Heap)(items:Array Value):oh (h.push {cls:=.type "tuple",data:=.seq items}) h.objs.size items:=⟨0,cS _ rfl⟩
inductive HO where
 |lst (xs:Bn)
 |tup (xs:Bn)
 |dK (kvs:List (Key×V))|dT (kvs:List (Ee×V))
 |set (S:Int->Bool) (n:Nat)
 |ins (C dx:Addr) (fs:List (Str×V))
 |own (x:Addr)
 |xd (fs:List (Str×V))
 |met (f x:Addr)
 |gH (lo hi:Int)
 |bW (o:Obj) (u:HO)
 |jw (ps:Array Value)
 |ext (φ:Heap->Prop)
abbrev Hp:=Addr->Option HO
noncomputable def ax(H:Hp)(a:Addr)(o:HO):Hp:=λb=>if b=a then some o else H b
theorem dZ{H:Hp}{a:Addr}{o:HO}:ax H a o a=some o:=by unfold ax;rw[aB rfl]
theorem aY{H:Hp}{a b:Addr}{o:HO}(h:b≠a):ax H a o b=H b:=by unfold ax;rw[av h]
theorem TY{H:Hp}{a b:Addr}{o u:HO}(h:H a=some o)(h':H b=some u)(d:o≠u):a≠b:=by
 intro e;subst e;rw[h] at h';exact d (Option.some.inj h')
theorem di{H:Hp}{a b:Addr}{o:HO}(h:H a=some o)(h':H b=none):a≠b:=by
 intro e;subst e;rw[h] at h';cases h'
section
variable(P:Program)(w:World)
def b9(H:Hp)(h:Heap)(a:Addr):HO->Prop
 | .lst xs=>xs.length<=sizeLine/\∃(its:BM) (n:Nat),Vals xs its/\h.get? a=some {cls:= .type "list",data:= .seq its.toArray n}
 | .tup xs=>xs.length<=sizeLine/\∃its:BM,Vals xs its/\oh h a its.toArray
 | .dK kvs=>kvs.length<=sizeLine/\(a==sysModules)=false/\∃vs,KV kvs vs/\h.DictOf (c9 P w) a vs
 | .dT kvs=>kvs.length<=sizeLine/\(a==sysModules)=false/\∃xs:List (Ee×Addr×Value),
  Paired (λ(p:Ee×V) (q:Ee×Addr×Value)=>p.1=q.1/\H q.2.1=some (.tup (p.1.map kV))/\RelV p.2 q.2.2) kvs xs/\
  ∃o es ep,h.get? a=some o/\o.ExactDict/\o.data= .dict es ep/\es.toList=xs.map (entryOfKey (tupleKind (c9 P w)))/\(xs.map (·.1)).Nodup
 | .set S n=>h.SetOf (intKind P w) a S n
 | .ins C dx fs=>H dx=some (.own a)/\fs.length<=1000/\dx≠a/\h.get? a=some (instObj C dx)/\
  ∃mA,h.Ns1 dx mA/\(∀f,iJ (fs.lookup f) (mA f))/\PySem.Within mA (fs.map (·.1))
 | .own _=>∃o,h.get? a=some o
 | .xd fs=>∃mA,h.Ns1 a mA/\∀f,iJ (fs.lookup f) (mA f)
 | .gH lo hi=>∃t u v,h.get? a=some {cls:= .type "range",data:= .fields #[.int lo t,.int hi u,.int 1 v]}
 | .bW o u=>h.get? a=some o/\b9 H h a u
 | .jw ps=>h.get? a=some {cls:= .none,data:= .fields ps}
 | .met f x=>h.get? a=some (methodObj (.ref f) (.ref x))
 | .ext φ=>φ h/\(∃o,h.get? a=some o)/\∀h1 h2:Heap,φ h1->(∀o,h1.get? a=some o->h2.get? a=some o)->φ h2
def c8(H:Hp)(h:Heap):Prop:=∀a o,H a=some o->b9 P w H h a o
end
section
variable{P:Program}{w:World}{H H':Hp}{h h':Heap}{a:Addr}{o:HO}
theorem b9.lt(x:b9 P w H h a o):a<h.objs.size:=by
 cases o with
 |lst xs=>obtain⟨_,_,_,_,e⟩:=x;exact aW e
 |tup xs=>obtain⟨_,_,_,p⟩:=x;exact p.is.lt
 |dK kvs=>obtain⟨_,_,_,_,o,_,_,e,_⟩:=x;exact aW e
 |dT kvs=>obtain⟨_,_,_,_,o,_,_,e,_⟩:=x;exact aW e
 |set S n=>obtain⟨o,_,_,_,e,_⟩:=x;exact aW e
 |ins C dx fs=>obtain⟨_,_,_,e,_⟩:=x;exact aW e
 |own y=>obtain⟨_,e⟩:=x;exact aW e
 |xd fs=>obtain⟨_,⟨_,_,_,e,_⟩,_⟩:=x;exact aW e
 |gH lo hi=>obtain⟨_,_,_,e⟩:=x;exact aW e
 |bW b u=>obtain⟨e,_⟩:=x;exact aW e
 |jw ps=>exact aW (show h.get? a=some _ from x)
 |met f y=>exact aW (show h.get? a=some _ from x)
 |ext c=>obtain⟨_,⟨_,e⟩,_⟩:=x;exact aW e
theorem Paired.kE{α β:Type}{F G:α->β->Prop}:∀{c:List α} {d:List β},Paired F c d->(∀a b,F a b->G a b)->Paired G c d
 |_,_,.nil,_=>.nil
 |_,_,.cons r t,f=>.cons (f _ _ r) (Paired.kE t f)
theorem b9.stay(x:b9 P w H h a o)(k:∀b u,(b=a\/H b=some (.own a))->h.get? b=some u->h'.get? b=some u)
  (l:∀b,H b=some (.own a)->H' b=some (.own a))(m:∀b xs,H b=some (.tup xs)->H' b=some (.tup xs)):b9 P w H' h' a o:=by
 induction o with
 |lst xs=>obtain⟨z,D,n,r,e⟩:=x;exact⟨z,D,n,r,k _ _ (.inl rfl) e⟩
 |tup xs=>obtain⟨z,D,r,n,e⟩:=x;exact⟨z,D,r,n,k _ _ (.inl rfl) e⟩
 |dK kvs=>obtain⟨z,y,vs,r,g,es,ep,e,c⟩:=x;exact⟨z,y,vs,r,g,es,ep,k _ _ (.inl rfl) e,c⟩
 |dT kvs=>
  obtain⟨z,y,xs,r,g,es,ep,e,c⟩:=x;exact⟨z,y,xs,Paired.kE r λp q z=>⟨z.1,m _ _ z.2.1,z.2.2⟩,g,es,ep,k _ _ (.inl rfl) e,c⟩
 |set S n=>obtain⟨g,es,ep,t,e,c⟩:=x;exact⟨g,es,ep,t,k _ _ (.inl rfl) e,c⟩
 |ins C dx fs=>
  obtain⟨d,z,ne,e,i,⟨j,es,ep,s,c⟩,r⟩:=x;exact⟨l _ d,z,ne,k _ _ (.inl rfl) e,i,⟨j,es,ep,k _ _ (.inr d) s,c⟩,r⟩
 |own y=>obtain⟨g,e⟩:=x;exact⟨g,k _ _ (.inl rfl) e⟩
 |xd fs=>obtain⟨i,⟨j,es,ep,e,c⟩,r⟩:=x;exact⟨i,⟨j,es,ep,k _ _ (.inl rfl) e,c⟩,r⟩
 |gH lo hi=>obtain⟨t,u,v,e⟩:=x;exact⟨t,u,v,k _ _ (.inl rfl) e⟩
 |bW g u A=>obtain⟨e,q⟩:=x;exact⟨k _ _ (.inl rfl) e,A q⟩
 |jw ps=>
  have e:h.get? a=some {cls:=.none,data:=.fields ps}:=x;show h'.get? a=some {cls:=.none,data:=.fields ps};exact k a _ (.inl rfl) e
 |met f y=>
  have e:h.get? a=some (methodObj (.ref f) (.ref y)):=x;show h'.get? a=some (methodObj (.ref f) (.ref y));exact k a _ (.inl rfl) e
 |ext B=>obtain⟨p,⟨o,e⟩,st⟩:=x;exact⟨st _ _ p λo q=>k _ _ (.inl rfl) q,⟨o,k _ _ (.inl rfl) e⟩,st⟩
theorem c8.lt(x:c8 P w H h)(e:H a=some o):a<h.objs.size:=(x a o e).lt
theorem c8.fresh(x:c8 P w H h)(e:h.objs.size<=a):H a=none:=by
 cases q:H a with
 |none=>rfl
 |some u=>exact absurd (dj (x.lt q) e) (gu _)
theorem c8.kept(x:c8 P w H h)(k:∀b u,h.get? b=some u->h'.get? b=some u):c8 P w H h':=λa o e=>
 (x a o e).stay (λb u _ q=>k b u q) (λ_ q=>q) λ_ _ q=>q
theorem c8.laid(x:c8 P w H h)(k:∀b u,h.get? b=some u->h'.get? b=some u)(g:h.objs.size<=a)(new:b9 P w (ax H a o) h' a o):c8 P w (ax H a o) h':=λb u e=>by
 have d:=x.fresh g;by_cases f:b=a
 .subst f;rw[dZ] at e;cases e;exact new
 .rw[aY f] at e
  exact(x b u e).stay (λc v _ q=>k c v q) (λc q=>by rw[aY (di q d)];exact q) λc xs q=>by rw[aY (di q d)];exact q
end
def Rd(H:Hp)(a:Addr)(u:HO):Prop:=H a=some u\/∃o,H a=some (.bW o u)
theorem Rd.ok{P:Program}{w:World}{H:Hp}{h:Heap}{a:Addr}{u:HO}(r:Rd H a u)(x:c8 P w H h):b9 P w H h a u:=by
 rcases r with r|⟨o,r⟩
 .exact x a u r
 .obtain⟨_,q⟩:=x a _ r
  exact q
def sC:Option HO->Prop
 |some (.lst _)=>True
 |some (.dK _)=>True
 |some (.dT _)=>True
 |some (.set _ _)=>True
 |some (.ins _ _ _)=>True
 |some (.ext _)=>True
 |_=>False
section
variable{P:Program}{w:World}{H:Hp}{h h':Heap}{x e:Addr}{o':HO}
theorem c8.write(ok:c8 P w H h)(g:sC (H x))(l:e=x\/H e=some (.own x))(k:∀b u,b≠e->h.get? b=some u->h'.get? b=some u)(j:∃u,h'.get? e=some u)
  (new:b9 P w (ax H x o') h' x o'):c8 P w (ax H x o') h':=λb u q=>by
 have d:∀c y,H c=some (.own y)->c≠x:=λc y r z=>by subst z;rw[r] at g;exact g
 have f:∀c xs,H c=some (.tup xs)->c≠x:=λc xs r z=>by subst z;rw[r] at g;exact g
 by_cases i:b=x
 .subst i;rw[dZ] at q;cases q;exact new
 .rw[aY i] at q
  by_cases a:b=e
  .have m:H b=some (.own x):=by
    rcases l with z|z
    .exact absurd (a.trans z) i
    .rw[a];exact z
   rw[q] at m;cases m;obtain⟨v,n⟩:=j;exact⟨v,by rw[a];exact n⟩
  .refine(ok b u q).stay (λc v hc r=>k c v ?_ r) (λc r=>by rw[aY (d c b r)];exact r) λc xs r=>by rw[aY (f c xs r)];exact r
   rcases hc with rfl|hc
   .exact a
   .rintro rfl
    rcases l with z|z
    .exact d c b hc z
    .rw[hc] at z;cases z;exact i rfl
end
structure Un(fs ex:D1)(H H':Hp)(h h':Heap):Prop where
 keep:∀b o,h.get? b=some o->H b=none->b∉fs->b∉ex->h'.get? b=some o
 slot:∀b o,h.get? b=some o->H b=none->b∈fs->b∉ex->∃sl,h'.get? b=some {o with slots:=sl}
 free:∀b o,h.get? b=some o->H b=none->b∉ex->H' b=none
 there:∀b o,h.get? b=some o->b∉ex->∃o',h'.get? b=some o'
 tups:∀b xs,H b=some (.tup xs)->H' b=some (.tup xs)
 fQ:∀b o u,H b=some (.bW o u)->H' b=some (.bW o u)
 gq:∀b ps,H b=some (.jw ps)->∃more,H' b=some (.jw (ps++more))
section
variable{fs fs' ex ex':D1}{H H1 H2:Hp}{h h1 h2 h':Heap}{a x e:Addr}{o:HO}
theorem Un.any(u:Un fs ex H H1 h h1){b:Addr}{a:Obj}(q:h.get? b=some a)(n:H b=none)(c:b∉ex):∃e,h1.get? b=some {a with slots:=e}:=by
 by_cases d:b∈fs
 .exact u.slot b a q n d c
 .exact⟨a.slots,u.keep b a q n d c⟩
theorem Un.kept(k:∀b u,h.get? b=some u->h'.get? b=some u):Un fs ex H H h h':=
 ⟨λb a q _ _ _=>k b a q,λb a q _ _ _=>⟨a.slots,k b a q⟩,λ_ _ _ n _=>n,λb a q _=>⟨a,k b a q⟩,λ_ _ q=>q,λ_ _ _ q=>q,λ_ ps q=>⟨#[],by rw[q];simp⟩⟩
theorem Un.refl:Un fs ex H H h h:=Un.kept λ_ _ q=>q
theorem Un.laid(k:∀b u,h.get? b=some u->h'.get? b=some u)(d:h.objs.size<=a)(c:H a=none):Un fs ex H (ax H a o) h h' where
 keep:=λb u q _ _ _=>k b u q
 slot:=λb u q _ _ _=>⟨u.slots,k b u q⟩
 free:=λb u q n _=>by rw[aY (bG (dj (aW q) d))];exact n
 there:=λb u q _=>⟨u,k b u q⟩
 tups:=λb xs q=>by rw[aY (di q c)];exact q
 fQ:=λb u xs q=>by rw[aY (di q c)];exact q
 gq:=λb ps q=>⟨#[],by rw[aY (di q c),q];simp⟩
theorem Un.write(c:sC (H x))(j:e=x\/H e=some (.own x))(k:∀b u,b≠e->h.get? b=some u->h'.get? b=some u)(d:∃u,h'.get? e=some u):Un fs ex H (ax H x o) h h':=by
 have g:∀b,H b=none->b≠x:=λb n z=>by subst z;rw[n] at c;exact c
 have i:∀b,H b=none->b≠e:=λb n z=>by
  subst z;rcases j with r|r
  .exact g b n r
  .rw[n] at r;cases r
 have f:∀b u,H b=some u->¬sC (some u)->b≠x:=λb u q nm z=>by subst z;rw[q] at c;exact nm c
 refine⟨λb u q n _ _=>k b u (i b n) q,λb u q n _ _=>⟨u.slots,k b u (i b n) q⟩,λb u q n _=>by rw[aY (g b n)];exact n,λb u q _=>?_,
  λb xs q=>by rw[aY (f b _ q λz=>z)];exact q,λb u xs q=>by rw[aY (f b _ q λz=>z)];exact q,λb ps q=>⟨#[],by rw[aY (f b _ q λz=>z),q];simp⟩⟩
 by_cases a:b=e
 .subst a;exact d
 .exact⟨u,k b u a q⟩
end
def yQ(h:Heap)(H:Hp):D1:=(range h.objs.size).filter λa=>(H a).isSome
def mj(h:Heap)(H:Hp):Heap:=hideAll h (yQ h H)
theorem Q_(h:Heap)(H:Hp):(mj h H).objs.size=h.objs.size:=PySem.W.hideAll_size _ _
theorem Q9{h:Heap}{H:Hp}{b:Addr}{o:Obj}(e:h.get? b=some o)(n:H b=none):(mj h H).get? b=some o:=
 hideAll_get _ e λa=>by
  have q:(H b).isSome=true:=(nI.mp a).2;rw[n] at q;simp at q
theorem Ui{h:Heap}{H:Hp}{b:Addr}{o:Obj}(e:(mj h H).get? b=some o):h.get? b=some o/\H b=none:=by
 have a:h.get? b=some o:=of_hideAll (yQ h H) e;refine⟨a,?_⟩;cases q:H b with
 |none=>rfl
 |some x=>
  have c:b∈yQ h H:=nI.mpr ⟨pW.mpr (aW a),by simp[q]⟩;have z:(mj h H).get? b=none:=PySem.W.hideAll_none (yQ h H) c;rw[z] at e;cases e
structure Mod(K:Frag)(mg:ay)(base:Heap):Prop where
 qQ:K.In base
 glob:base.Ns mainGlobals mg
 blt:∃mb,base.Ns builtinsNs mb/\∀x:Str,x≠"__name__"->mb x=bootBuiltins x
 nolimit:base.NoLimit
structure Cx where
 prog:Program
 w:World
 K:Frag
 mg:ay
 base:Heap
 A:Around
 N:Ap
 s₀:Shared
 H₀:Hp
 env:Env
 outer:Fh
 stack:Fh
 ex:D1
 fn:Str->Bool
 calm:Bool
 pn:aZ
 xe:aV
def frs(l:Fh):D1:=l.filterMap (·.frame)
abbrev Cx.fs(X:Cx):D1:=frs X.outer
def qu(sc:Scope)(x:Str):Prop:=sc.names.lookup x=some .local\/sc.names.lookup x=some .cell\/sc.names.lookup x=some .free
def Loc(sc:Scope)(x:Str):Prop:=sc.names.lookup x=some .local\/sc.names.lookup x=some .cell
def Look(env:Env)(h:Heap)(m:ay)(x:Str)(u:Value):Prop:=
 (env.kindOf x=some .local/\m x=some u)\/((env.kindOf x=some .cell\/env.kindOf x=some .free)/\∃c,env.cells.lookup x=some c/\h.IsCell c (some u))
structure Cx.Ok(X:Cx):Prop where
 mod:Mod X.K X.mg X.base
 kind:X.env.scope.kind= .function
 glob:X.env.globals=mainGlobals
 blt:X.env.builtins=builtinsNs
 above:X.s₀.heap.objs.size<=X.env.locals
 inj:∀x y c,X.env.cells.lookup x=some c->X.env.cells.lookup y=some c->x=y
 has:∀x,(X.env.kindOf x=some .cell\/X.env.kindOf x=some .free)->∃c,X.env.cells.lookup x=some c
 ou:∀x c,X.fn x=true->X.env.cells.lookup x=some c->X.s₀.heap.objs.size<=c
 hd:X.calm=true->X.A.handled=none
 frames:X.A.frames=some X.stack
 stk:X.stack=X.outer\/(X.stack=X.env::X.outer/\X.env.frame=some X.env.locals)
 wD:∀b∈X.ex,b≠X.env.locals/\∀x c,X.env.cells.lookup x=some c->c≠b
 bs:∀b o,X.base.get? b=some o->X.s₀.heap.get? b=some o/\X.H₀ b=none
 kg:X.base.objs.size<=X.s₀.heap.objs.size
 o8:∀b o,X.base.get? b=some o->b∉X.ex
 qH:∀b∈X.ex,b∉X.fs
 i_:X.s₀.heap.FunFrames X.base X.outer
 ly:∀b∈X.fs,X.H₀ b=none
structure Inv(X:Cx)(ae:aZ)(σ:List (Option V))(H:Hp)(s:Shared):Prop where
 ok:X.Ok
 os:s.os=X.s₀.os
 bare:AllBare s.gens
 base:Un X.fs X.ex X.H₀ H X.s₀.heap s.heap
 loc:∃m,s.heap.Ns X.env.locals m/\∀(i:Nat) (x:Str) (v:V),X.N[i]? =some x->σ[i]? =some (some v)->qu X.env.scope x->∃u,RelV v u/\Look X.env s.heap m x u
 cell:∀x c,X.env.cells.lookup x=some c->∃v,s.heap.IsCell c v
 free:H X.env.locals=none
 gA:∀x c,X.env.cells.lookup x=some c->H c=none
 pin:∀p∈X.pn++ae,s.heap.get? p.1=some p.2/\H p.1=none/\p.1≠X.env.locals/\p.1∉X.fs/\∀v,p.2.data≠ .cell v
 ar:c8 X.prog X.w H s.heap
 len:σ.length=X.N.length
variable{X:Cx}
section
variable{ae:aZ}{σ:List (Option V)}{H H':Hp}{s:Shared}{h':Heap}
theorem Cx.Ok.xM(ok:X.Ok){b:Addr}{o:Obj}(e:X.base.get? b=some o):b∉X.fs:=λa=>by
 have:=(ok.i_.mem a).1;rw[e] at this;cases this
theorem Inv.bs(I:Inv X ae σ H s):∀b o,X.base.get? b=some o->s.heap.get? b=some o/\H b=none:=λb o e=>
 ⟨I.base.keep b o (I.ok.bs b o e).1 (I.ok.bs b o e).2 (I.ok.xM e) (I.ok.o8 b o e),I.base.free b o (I.ok.bs b o e).1 (I.ok.bs b o e).2 (I.ok.o8 b o e)⟩
theorem Inv.bk(I:Inv X ae σ H s):∀b o,X.base.get? b=some o->s.heap.get? b=some o:=λb o e=>(I.bs b o e).1
theorem Inv.mod(I:Inv X ae σ H s):Mod X.K X.mg X.base:=I.ok.mod
theorem Inv.fD(I:Inv X ae σ H s):X.K.In s.heap:=I.ok.mod.qQ.keeps I.bk
theorem Inv.lt(I:Inv X ae σ H s):X.env.locals<s.heap.objs.size:=let ⟨_,a,_⟩:=I.loc;a.lt
theorem Inv.sz(I:Inv X ae σ H s):X.s₀.heap.objs.size<=s.heap.objs.size:=d7 I.ok.above (gK I.lt)
theorem Inv.T8(I:Inv X ae σ H s){a:Addr}(h:s.heap.objs.size<=a):a∉X.fs:=λb=>by
 obtain⟨_,o,c,_⟩:=I.ok.i_.mem b;exact absurd (dj (aW c) (d7 I.sz h)) (gu _)
theorem Inv.kZ(I:Inv X ae σ H s):∀x c,X.env.cells.lookup x=some c->c≠X.env.locals:=λx c e z=>by
 obtain⟨v,o,d,hd⟩:=I.cell x c e;obtain⟨m,⟨o',es,ep,a,b,_⟩,_⟩:=I.loc;rw[z,a] at d;cases d;rw[b] at hd;cases hd
theorem Inv.i_(I:Inv X ae σ H s):s.heap.FunFrames X.base X.outer:=by
 have all:∀(l:Fh),(∀b∈frs l,b∈X.fs)->X.s₀.heap.FunFrames X.base l->s.heap.FunFrames X.base l:=by
  intro l;induction l with
  |nil=>intro _ _;trivial
  |cons env r g=>
   intro f hl;obtain⟨h,⟨L,o,a,i,j,hd⟩,k⟩:=hl;have c:L∈X.fs:=f L (by unfold frs;rw[Dj,a];exact bw);obtain⟨m,e⟩:=I.base.slot L o j (I.ok.ly L c) c λz=>I.ok.qH L z c;exact⟨h,⟨L,_,a,i,e,hd⟩,g (λb d=>f b (by unfold frs;rw[Dj,a];exact bq _ d)) k⟩
 exact all X.outer (λ_ d=>d) I.ok.i_
theorem Inv.stack(I:Inv X ae σ H s):s.heap.FunFrames X.base X.stack:=by
 rcases I.ok.stk with e|⟨e,a⟩
 .rw[e];exact I.i_
 .rw[e]
  obtain⟨m,b,_⟩:=I.loc;refine .cons (by rw[I.ok.kind];decide) a b ?_ I.i_;exact Heap.get?_none_of_le (d7 I.ok.kg I.ok.above)
theorem Inv.rB(I:Inv X ae σ H s):∀b∈frs X.stack,b∈X.env.locals::X.fs:=λb a=>by
 rcases I.ok.stk with e|⟨e,c⟩
 .rw[e] at a;exact bq _ a
 .rw[e] at a
  unfold frs at a;rw[Dj,c] at a;exact a
theorem Inv.CL(I:Inv X ae σ H s):∀b∈frs X.stack,H b=none:=λb hb=>by
 rcases bx.mp (I.rB b hb) with e|hb
 .rw[e];exact I.free
 .obtain⟨_,o,a,_⟩:=I.ok.i_.mem hb
  exact I.base.free b o a (I.ok.ly b hb) λz=>I.ok.qH b z hb
theorem Inv.step{g':Array GenState}{t':Nat}{d':Drawn}{ch:D1}(I:Inv X ae σ H s)
  (f:∀b∈ch,(b∈X.ex\/X.s₀.heap.objs.size<=b)/\b≠X.env.locals/\(∀x c,X.env.cells.lookup x=some c->c≠b)/\∀p∈X.pn++ae,p.1≠b)
  (keep:∀b o,b≠X.env.locals->b∉X.fs->b∉ch->s.heap.get? b=some o->H b=none->h'.get? b=some o)
  (slot:∀b o,b≠X.env.locals->b∈X.fs->b∉ch->s.heap.get? b=some o->H b=none->∃D,h'.get? b=some {o with slots:=D})(free:∀b o,b∉ch->s.heap.get? b=some o->H b=none->H' b=none)
  (there:∀b o,b∉ch->s.heap.get? b=some o->∃o',h'.get? b=some o')
  (tups:∀b xs,H b=some (.tup xs)->H' b=some (.tup xs))(fQ:∀b o u,H b=some (.bW o u)->H' b=some (.bW o u))(gq:∀b ps,H b=some (.jw ps)->∃A,H' b=some (.jw (ps++A)))
  (ns:∀m,s.heap.Ns X.env.locals m->h'.Ns X.env.locals m)(ar:c8 X.prog X.w H' h')(J:AllBare g'):
  Inv X ae σ H' {s with heap:=h',gens:=g',drawn:=d',toks:=t'}:=by
 have B:∀b o,X.s₀.heap.get? b=some o->b≠X.env.locals:=λb o e=>bG (dj (aW e) I.ok.above)
 have h:∀b o,X.s₀.heap.get? b=some o->b∉X.ex->b∉ch:=λb o e a t=>by
  rcases (f b t).1 with z|z
  .exact a z
  .exact absurd (dj (aW e) z) (gu _)
 have cellK:∀x c,X.env.cells.lookup x=some c->∀v,s.heap.IsCell c v->h'.IsCell c v:=λx c e v ⟨o,y,hd⟩=>by
  have g:c∉ch:=λz=>(f c z).2.2.1 x c e rfl
  by_cases hc:c∈X.fs
  .obtain⟨D,q⟩:=slot c o (I.kZ x c e) hc g y (I.gA x c e)
   exact⟨_,q,hd⟩
  .exact⟨o,keep c o (I.kZ x c e) hc g y (I.gA x c e),hd⟩
 refine⟨I.ok,I.os,J,⟨λb o e n t a=> ?_,λb o e n t a=> ?_,λb o e n a=> ?_,λb o e a=> ?_,λb xs e=>tups b xs (I.base.tups b xs e),λb o xs e=>fQ b o xs (I.base.fQ b o xs e),λb ps e=> ?_⟩,?_,λx c e=> ?_,?_,λx c e=> ?_,λp F=> ?_,ar,I.len⟩
 .exact keep b o (B b o e) t (h b o e a) (I.base.keep b o e n t a) (I.base.free b o e n a)
 .obtain⟨D,j⟩:=I.base.slot b o e n t a
  obtain⟨E,C⟩:=slot b _ (B b o e) t (h b o e a) j (I.base.free b o e n a)
  exact⟨E,C⟩
 .obtain⟨o',j⟩:=I.base.there b o e a
  exact free b o' (h b o e a) j (I.base.free b o e n a)
 .obtain⟨o',j⟩:=I.base.there b o e a
  exact there b o' (h b o e a) j
 .obtain⟨K,j⟩:=I.base.gq b ps e
  obtain⟨L,C⟩:=gq b _ j
  exact⟨K++L,by rw[C,Array.append_assoc]⟩
 .obtain⟨m,M,hl⟩:=I.loc
  refine⟨m,ns m M,λi x v j C N=> ?_⟩
  obtain⟨u,r,l⟩:=hl i x v j C N
  refine⟨u,r,?_⟩
  rcases l with l|⟨k,c,e,z⟩
  .exact .inl l
  .exact .inr ⟨k,c,e,cellK x c e _ z⟩
 .obtain⟨v,z⟩:=I.cell x c e
  exact⟨v,cellK x c e v z⟩
 .obtain⟨m,⟨o,_,_,y,_⟩,_⟩:=I.loc
  exact free _ o (λz=>(f _ z).2.1 rfl) y I.free
 .obtain⟨v,o,y,hd⟩:=I.cell x c e
  exact free c o (λz=>(f c z).2.2.1 x c e rfl) y (I.gA x c e)
 .obtain⟨e,n,ne,G,d⟩:=I.pin p F
  have g:p.1∉ch:=λz=>(f p.1 z).2.2.2 p F rfl
  exact⟨keep p.1 p.2 ne G g e n,free p.1 p.2 g e n,ne,G,d⟩
theorem Inv.un{t':Nat}(I:Inv X ae σ H s)(u:Un X.fs [] H H' s.heap h')(ar:c8 X.prog X.w H' h'):Inv X ae σ H' {s with heap:=h',toks:=t'}:=by
 obtain⟨m,⟨o,es,ep,g,r⟩,_⟩:=id I.loc;obtain⟨j,h⟩:=u.any g I.free θ;exact I.step (g':=s.gens) (d':=s.drawn) (ch:=[]) (λ_ z=>nomatch z) (λb o _ c _ e n=>u.keep b o e n c θ) (λb o _ c _ e n=>u.slot b o e n c θ) (λb o _ e n=>u.free b o e n θ) (λb o _ e=>u.there b o e θ) u.tups u.fQ u.gq (λk i=>by
  obtain⟨o',d,f,a,r'⟩:=i;rw[g] at a;cases a;exact⟨_,d,f,h,r'⟩) ar I.bare
theorem Inv.call{g':Array GenState}{t':Nat}{d':Drawn}{ch:D1}(I:Inv X ae σ H s)(u:Un (frs X.stack) ch H H' s.heap h')(ar:c8 X.prog X.w H' h')(j:AllBare g')
  (a:∀b∈ch,(b∈X.ex\/X.s₀.heap.objs.size<=b)/\b≠X.env.locals/\(∀x c,X.env.cells.lookup x=some c->c≠b)/\∀p∈X.pn++ae,p.1≠b):
  Inv X ae σ H' {s with heap:=h',gens:=g',drawn:=d',toks:=t'}:=by
 obtain⟨m,⟨o,es,ep,i,r⟩,_⟩:=id I.loc;obtain⟨q,f⟩:=u.any i I.free λz=>(a _ z).2.1 rfl;exact I.step (ch:=ch) a (λb o f k hc e n=>u.keep b o e n (λz=>(bx.mp (I.rB b z)).elim f k) hc) (λb o _ _ hc e n=>u.any e n hc) (λb o hc e n=>u.free b o e n hc) (λb o hc e=>u.there b o e hc) u.tups u.fQ u.gq (λt l=>by
  obtain⟨o',g,h,d,r'⟩:=l;rw[i] at d;cases d;exact⟨_,g,h,f,r'⟩) ar j
theorem Inv.turned{t':Nat}{it:Addr}(I:Inv X ae σ H s)(k:∀b o,b≠it->s.heap.get? b=some o->h'.get? b=some o)(f:H it=none)(d:it≠X.env.locals)
  (h1:it∈X.ex\/X.s₀.heap.objs.size<=it)(h2:∀x c,X.env.cells.lookup x=some c->c≠it)(g:∀p∈X.pn++ae,p.1≠it):Inv X ae σ H {s with heap:=h',toks:=t'}:=by
 have a:∀b u,H b=some u->b≠it:=λb u e z=>by rw[z,f] at e;cases e
 refine I.step (g':=s.gens) (d':=s.drawn) (ch:=[it]) (λb h=>?_) (λb o _ _ hc e _=>k b o (λz=>hc (by simp[z])) e) (λb o _ _ hc e _=>⟨o.slots,k b o (λz=>hc (by simp[z])) e⟩) (λ_ _ _ _ n=>n)
  (λb o hc e=>⟨o,k b o (λz=>hc (by simp[z])) e⟩) (λ_ _ e=>e) (λ_ _ _ e=>e) (λb ps e=>⟨#[],by rw[e];simp⟩) (λm i=>?_) (λb u e=>?_) I.bare
 .have e:b=it:=by simpa using h
  subst e;exact⟨h1,d,h2,g⟩
 .obtain⟨o,es,ep,j,r⟩:=i
  exact⟨o,es,ep,k _ o (Ne.symm d) j,r⟩
 .refine(I.ar b u e).stay (λc v hc q=>k c v ?_ q) (λ_ q=>q) λ_ _ q=>q
  rcases hc with z|z
  .rw[z];exact a b u e
  .exact a c _ z
theorem Inv.tok(I:Inv X ae σ H s)(t:Nat):Inv X ae σ H {s with toks:=t}:=I.un (h':=s.heap) (t':=t) Un.refl I.ar
theorem Inv.kept{t':Nat}(I:Inv X ae σ H s)(k:∀b u,s.heap.get? b=some u->h'.get? b=some u):Inv X ae σ H {s with heap:=h',toks:=t'}:=I.un (Un.kept k) (I.ar.kept k)
theorem Inv.laid{a:Addr}{o:HO}{t':Nat}(I:Inv X ae σ H s)(k:∀b u,s.heap.get? b=some u->h'.get? b=some u)(c:s.heap.objs.size<=a)(new:b9 X.prog X.w (ax H a o) h' a o):
 Inv X ae σ (ax H a o) {s with heap:=h',toks:=t'}:=I.un (Un.laid k c (I.ar.fresh c)) (I.ar.laid k c new)
theorem Inv.write{x e:Addr}{o:HO}{f:Nat}(I:Inv X ae σ H s)(c:sC (H x))(d:e=x\/H e=some (.own x))(k:∀b u,b≠e->s.heap.get? b=some u->h'.get? b=some u)(a:∃u,h'.get? e=some u)
 (new:b9 X.prog X.w (ax H x o) h' x o):Inv X ae σ (ax H x o) {s with heap:=h',toks:=f}:=I.un (Un.write c d k a) (I.ar.write c d k a new)
theorem Inv.weak{σ':List (Option V)}(I:Inv X ae σ H s)(hl:σ'.length=σ.length)(w:∀(i:Nat) v,σ'[i]?=some (some v)->σ[i]?=some (some v)):Inv X ae σ' H s:=
 ⟨I.ok,I.os,I.bare,I.base,let ⟨m,b,a⟩:=I.loc;⟨m,b,λi x v c d e=>a i x v c (w i v d) e⟩,I.cell,I.free,I.gA,I.pin,I.ar,hl.trans I.len⟩
theorem Inv.IT{a:aZ}(I:Inv X ae σ H s)(h:∀p∈a,s.heap.get? p.1=some p.2/\H p.1=none/\p.1≠X.env.locals/\p.1∉X.fs/\∀v,p.2.data≠ .cell v):Inv X a σ H s:=
 ⟨I.ok,I.os,I.bare,I.base,I.loc,I.cell,I.free,I.gA,λp b=>(bR.mp b).elim (λz=>I.pin p (nH _ z)) (h p),I.ar,I.len⟩
theorem Iu{N:Ap}(c:N.Nodup){i j:Nat}{x:Str}(a:N[i]?=some x)(b:N[j]?=some x):i=j:=by
 obtain⟨h1,d⟩:=bK.mp a;obtain⟨h2,e⟩:=bK.mp b;exact(List.getElem_inj c).mp (d.trans e.symm)
theorem Ld {M:Model}{A:Around}{E:aV}{i:Nat}{x:Str}{v:V}{u:Value}{Q:Unit->Shared->Prop} (I:Inv X ae σ H s) (hN:X.N.Nodup) (hi:X.N[i]?=some x) (l:Loc X.env.scope x) (r:RelV v u)
  (h:∀s',Inv X ae (σ.set i (some v)) H s'->(∃a,SameBut a s.heap s'.heap /\ (a=X.env.locals \/ X.env.cells.lookup x=some a))->Q () s') (hf:autoParam (X.fn x=true \/ X.env.scope.names.lookup x=some .local) Zw):wpAny M A (storeName X.env x u) Q E s:=by
 obtain ⟨m,S,hl⟩:=id I.loc
 have J:(X.env.scope.kind == .class || (X.env.scope.kind == .module && X.env.locals != X.env.globals))=false:=by rw [I.ok.kind];rfl
 have C:i < σ.length:=by rw [I.len];exact (bK.mp hi).1
 have kZ:=I.kZ
 have tracked:∀{a:Addr}{h':Heap},(∃o,s.heap.get? a=some o /\ H a=none)->SameBut a s.heap h'->c8 X.prog X.w H h':=λ{a h'} ha f b ob e=>by
  obtain ⟨_,_,t⟩:=ha
  refine (I.ar b ob e).stay (λc R hc q=>(f.2 c ?_).trans q) (λ_ q=>q) λ_ _ q=>q
  rintro rfl
  rcases hc with rfl | hc
  ·rw [t] at e;cases e
  ·rw [t] at hc;cases hc
 rcases l with hk | hk
 ·refine wpAny_storeName_local hk S (λh' T f=>?_) J
  obtain ⟨oL,_,_,U,_⟩:=id S
  refine h _ ⟨I.ok,I.os,I.bare,⟨λb o e n D l=>?_,λb o e n D l=>?_,I.base.free,λb o e l=>?_,I.base.tups,I.base.fQ,I.base.gq⟩,⟨_,T,λj y W g B Y=>?_⟩,λy c e=>?_,I.free,I.gA,λp Z=>?_,tracked ⟨oL,U,I.free⟩ f,by simpa using I.len⟩ ⟨_,f,.inl rfl⟩
  ·exact (f.2 b (bG (dj (aW e) I.ok.above))).trans (I.base.keep b o e n D l)
  ·obtain ⟨sl,g⟩:=I.base.slot b o e n D l
   exact ⟨sl,(f.2 b (bG (dj (aW e) I.ok.above))).trans g⟩
  ·obtain ⟨o',g⟩:=I.base.there b o e l
   exact ⟨o',(f.2 b (bG (dj (aW e) I.ok.above))).trans g⟩
  ·by_cases F:j=i
   ·subst F
    rw [hi] at g;cases g
    rw [eG C] at B
    cases B
    exact ⟨u,r,.inl ⟨hk,by simp⟩⟩
   ·rw [eF (Ne.symm F)] at B
    obtain ⟨u',r',q⟩:=hl j y W g B Y
    refine ⟨u',r',?_⟩
    rcases q with ⟨k,e⟩ | ⟨k,c,e,z⟩
    ·refine .inl ⟨k,?_⟩
     have:y ≠ x:=λe=>F (Iu hN g (e ▸ hi))
     simp [this,e]
    ·exact .inr ⟨k,c,e,z.sameBut f (kZ y c e)⟩
  ·obtain ⟨R,z⟩:=I.cell y c e
   exact ⟨R,z.sameBut f (kZ y c e)⟩
  ·obtain ⟨e,n,ne,nf,d⟩:=I.pin p Z
   exact ⟨(f.2 p.1 ne).trans e,n,ne,nf,d⟩
 ·have G:X.fn x=true:=by
   rcases hf with z | z
   ·exact z
   ·rw [z] at hk;cases hk
  obtain ⟨c,hc⟩:=I.ok.has x (.inl hk)
  obtain ⟨R,z⟩:=I.cell x c hc
  refine wpAny_storeName_cell I.ok.kind hk hc z (λh' K f=>?_)
  obtain ⟨oc,L,O⟩:=id z
  refine h { s with heap:=h' } ⟨I.ok,I.os,I.bare,⟨λb o e n D l=>?_,λb o e n D l=>?_,I.base.free,λb o e l=>?_,I.base.tups,I.base.fQ,I.base.gq⟩,⟨m,S.sameBut f (Ne.symm (kZ x c hc)),λj y W g B Y=>?_⟩,λy c' e=>?_,I.free,I.gA,λp Z=>?_,tracked ⟨oc,L,I.gA x c hc⟩ f,by simpa using I.len⟩ ⟨c,f,.inr hc⟩
  ·exact (f.2 b (bG (dj (aW e) (I.ok.ou x c G hc)))).trans (I.base.keep b o e n D l)
  ·obtain ⟨sl,g⟩:=I.base.slot b o e n D l
   exact ⟨sl,(f.2 b (bG (dj (aW e) (I.ok.ou x c G hc)))).trans g⟩
  ·obtain ⟨o',g⟩:=I.base.there b o e l
   exact ⟨o',(f.2 b (bG (dj (aW e) (I.ok.ou x c G hc)))).trans g⟩
  ·by_cases F:j=i
   ·subst F
    rw [hi] at g;cases g
    rw [eG C] at B
    cases B
    exact ⟨u,r,.inr ⟨.inl hk,c,hc,K⟩⟩
   ·rw [eF (Ne.symm F)] at B
    obtain ⟨u',r',q⟩:=hl j y W g B Y
    refine ⟨u',r',?_⟩
    rcases q with q | ⟨k,c',e,z'⟩
    ·exact .inl q
    ·refine .inr ⟨k,c',e,z'.sameBut f ?_⟩
     rintro rfl
     exact F (Iu hN g (I.ok.inj _ _ _ e hc ▸ hi))
  ·by_cases P:c'=c
   ·subst P;exact ⟨_,K⟩
   ·obtain ⟨w2,z2⟩:=I.cell y c' e
    exact ⟨w2,z2.sameBut f P⟩
  ·obtain ⟨e,n,ne,nf,d⟩:=I.pin p Z
   refine ⟨(f.2 p.1 ?_).trans e,n,ne,nf,d⟩
   intro q
   rw [q,L] at e
   have q':oc=p.2:=Option.some.inj e
   exact d R (by rw [← q'];exact O)
theorem rC{M:Model}{A:Around}{E:aV}{i:Nat}{x:Str}{v:V}{u:Value}{Q:Unit->Shared->Prop}(I:Inv X ae σ H s)(a:X.N.Nodup)(hi:X.N[i]?=some x)(b:Loc X.env.scope x)(r:RelV v u)
  (h:∀s',Inv X ae (σ.set i (some v)) H s'->Q () s')(c:autoParam (X.fn x=true\/X.env.scope.names.lookup x=some .local) Zw):wpAny M A (storeName X.env x u) Q E s:=
 Ld I a hi b r (λs' d _=>h s' d) c
theorem Inv.Ah{s':Shared}{ch:D1}(I:Inv X ae σ H s)(d:s'.os=s.os)(u:Un (frs X.stack) ch H H' s.heap s'.heap)(ar:c8 X.prog X.w H' s'.heap)(f:AllBare s'.gens)
  (a:∀b∈ch,(b∈X.ex\/X.s₀.heap.objs.size<=b)/\b≠X.env.locals/\(∀x c,X.env.cells.lookup x=some c->c≠b)/\∀p∈X.pn++ae,p.1≠b):Inv X ae σ H' s':=by
 obtain⟨h',g',d',t',o'⟩:=s';have e:o'=s.os:=d;subst e;exact I.call (g':=g') (t':=t') (d':=d') u ar f a
end
abbrev XK:=Value->Option Addr->Hp->Prop
abbrev St:=List (Option V)
abbrev VK:=V->Hp->Prop
abbrev TE:=St->Hp->VK->Prop
abbrev TT:=St->Hp->(Bool->Hp->Prop)->Prop
abbrev TA:=St->Hp->(Bn->Hp->Prop)->Prop
structure Ends where
 nx:St->Hp->Prop
 rt:VK
 bk:St->Hp->Prop:=λ_ _=>False
 ct:St->Hp->Prop:=λ_ _=>False
abbrev TS:=Ends->St->Hp->Prop
def EP(X:Cx)(ae:aZ)(σ:St)(Q:VK)(u:Value)(s':Shared):Prop:=∃v H',Inv X ae σ H' s'/\RelV v u/\Q v H'
def TP(X:Cx)(ae:aZ)(σ:St)(Q:Bool->Hp->Prop)(b:Bool)(s':Shared):Prop:=∃H',Inv X ae σ H' s'/\Q b H'
def AP(X:Cx)(ae:aZ)(σ:St)(Q:Bn->Hp->Prop)(us:BM)(s':Shared):Prop:=∃vs H',Inv X ae σ H' s'/\Vals vs us/\Q vs H'
def SP(X:Cx)(ae:aZ)(D:Ends)(f:Flow)(s':Shared):Prop:=
 match f with
 |.next=>∃σ' H',Inv X ae σ' H' s'/\D.nx σ' H'
 |.brk=>∃σ' H',Inv X ae σ' H' s'/\D.bk σ' H'
 |.cont=>∃σ' H',Inv X ae σ' H' s'/\D.ct σ' H'
 |.ret u=>∃v σ' H',Inv X ae σ' H' s'/\RelV v u/\D.rt v H'
def PE(X:Cx)(e:Expr)(t:TE):Prop:=
 ∀(ae:aZ) (s:Shared) (σ:St) (H:Hp) (Q:VK),Inv X ae σ H s->t σ H Q->wpAny (model X.prog X.w) X.A (eval e X.env) (EP X ae σ Q) X.xe s
def PT(X:Cx)(e:Expr)(t:TT):Prop:=
 ∀(ae:aZ) (s:Shared) (σ:St) (H:Hp) (Q:Bool->Hp->Prop),Inv X ae σ H s->t σ H Q->wpAny (model X.prog X.w) X.A (isTrue e X.env (eval e X.env)) (TP X ae σ Q) X.xe s
def PW(X:Cx)(e:Expr)(t:TT):Prop:=
 ∀(whole:Sem Value) (ae:aZ) (s:Shared) (σ:St) (H:Hp) (Q:Bool->Hp->Prop),Inv X ae σ H s->t σ H Q->wpAny (model X.prog X.w) X.A (isTrue e X.env whole) (TP X ae σ Q) X.xe s
theorem PW.pt{X:Cx}{e:Expr}{t:TT}(h:PW X e t):PT X e t:=h _
def PA(X:Cx)(es:DD)(t:TA):Prop:=
 ∀(pos:Pos) (ae:aZ) (s:Shared) (σ:St) (H:Hp) (Q:Bn->Hp->Prop),Inv X ae σ H s->t σ H Q->wpAny (model X.prog X.w) X.A (spliced (backTo pos (starEach es X.env))) (AP X ae σ Q) X.xe s
def PS(X:Cx)(st:Stmt)(t:TS):Prop:=
 ∀(ae:aZ) (s:Shared) (σ:St) (H:Hp) (D:Ends),Inv X ae σ H s->t D σ H->wpAny (model X.prog X.w) X.A (exec st X.env) (SP X ae D) X.xe s
def dF(X:Cx)(st:FK)(t:TS):Prop:=
 ∀(ae:aZ) (s:Shared) (σ:St) (H:Hp) (D:Ends),Inv X ae σ H s->t D σ H->wpAny (model X.prog X.w) X.A (execs st X.env) (SP X ae D) X.xe s
theorem aQ{α:Type}{t:Sem α}{Q b:α->Shared->Prop}{M:Model}{A:Around}{E:aV}{s:Shared}(h:wpAny M A t Q E s)(c:∀a s,Q a s->b a s):wpAny M A t b E s:=jA h c λ_ _ x=>x
section
def Yi(i:Nat):TE:=λσ H Q=>∃v,σ[i]?=some (some v)/\Q v H
def tC(v:V):TE:=λ_ H Q=>Q v H
theorem Vh{i:Nat}{x:Str}{pos:Pos}(d:X.N[i]?=some x)(f:qu X.env.scope x)(hd:(x==("__debug__":Str))=false:=by decide)(b:(x==("__classdict__":Str))=false:=by decide):PE X (.Name x pos) (Yi i):=by
 intro ae s σ H Q I h;obtain⟨v,e,h⟩:=h;obtain⟨m,g,hl⟩:=I.loc;obtain⟨u,r,l⟩:=hl i x v d e f;have fin:EP X ae σ Q u s:=⟨v,H,I,r,h⟩;rcases l with⟨hk,j⟩|⟨hk,c,hc,a⟩
 .exact wpAny_Name (wpAny_loadName_local I.ok.kind hk g j fin) hd
 .rcases hk with hk|hk
  .exact wpAny_Name (wpAny_loadName_cell I.ok.kind hk hc a fin) hd
  .exact wpAny_Name (wpAny_loadName_free I.ok.kind hk hc a fin b) hd
theorem U5{i j pos}:PE X (.Constant (.int i) j pos) (tC (.int i)):=λ_ _ _ H _ I h=>wpAny_Constant_int ⟨.int i,H,I.tok _,⟨_,rfl⟩,h⟩
theorem UU{b j pos}:PE X (.Constant (.bool b) j pos) (tC (.bl b)):=λ_ _ _ H _ I h=>Constant_bool ⟨.bl b,H,I,rfl,h⟩
theorem U_{j pos}:PE X (.Constant .none j pos) (tC .aD):=λ_ _ _ H _ I h=>Constant_none ⟨.aD,H,I,rfl,h⟩
theorem Vd{x j pos}:PE X (.Constant (.str x) j pos) (tC (.str x)):=λ_ _ _ H _ I h=>Calls.Constant_str ⟨.str x,H,I.tok _,⟨_,rfl⟩,h⟩
def Gl(X:Cx)(x:Str):Prop:=X.env.kindOf x=some .globalImplicit
theorem uf{E:aV}{ae:aZ}{s:Shared}{σ:St}{H:Hp}{x:Str}{u:Value}{pos:Pos}{Q:aV}(I:Inv X ae σ H s)(a:Gl X x)(b:X.mg x=some u)(h:Q u s)
  (hd:(x==("__debug__":Str))=false:=by decide):wpAny (model X.prog X.w) X.A (eval (.Name x pos) X.env) Q E s:=
 Calls.Name_function_global I.ok.kind a (Calls.loadGlobal_global (by rw[I.ok.glob];exact I.mod.glob.keeps I.bk) b h) hd
theorem jr{E:aV}{ae:aZ}{s:Shared}{σ:St}{H:Hp}{x:Str}{u:Value}{pos:Pos}{Q:aV}(I:Inv X ae σ H s)(a:Gl X x)(b:X.mg x=none)(c:bootBuiltins x=some u)(h:Q u s)
  (d:x≠"__name__":=by decide)(hd:(x==("__debug__":Str))=false:=by decide):wpAny (model X.prog X.w) X.A (eval (.Name x pos) X.env) Q E s:=by
 obtain⟨mb,h1,h2⟩:=I.mod.blt;exact Calls.Name_function_global I.ok.kind a (Calls.loadGlobal_builtin (by rw[I.ok.glob];exact I.mod.glob.keeps I.bk) b (by rw[I.ok.blt];exact h1.keeps I.bk) ((h2 x d).trans c) h) hd
theorem IP{x:Str}{v:V}{u:Value}{pos:Pos}(a:Gl X x)(b:X.mg x=some u)(r:RelV v u)(hd:(x==("__debug__":Str))=false:=by decide):PE X (.Name x pos) (tC v):=
 λ_ _ _ H _ I h=>uf I a b ⟨v,H,I,r,h⟩ hd
theorem IK{x:Str}{v:V}{u:Value}{pos:Pos}(a:Gl X x)(b:X.mg x=none)(c:bootBuiltins x=some u)(r:RelV v u)(d:x≠"__name__":=by decide)(hd:(x==("__debug__":Str))=false:=by decide):PE X (.Name x pos) (tC v):=
 λ_ _ _ H _ I h=>jr I a b c ⟨v,H,I,r,h⟩ d hd
variable{a b:Expr}{ta tb:TE}{pos:Pos}
def tB(t:TE):TT:=λσ H Q=>t σ H λx H1=>∃c,x=.bl c/\Q c H1
theorem VZ{e:Expr}{t:TE}(h:PE X e t)(a:∀whole,isTrue e X.env whole=(do let v <-whole;standAt e.pos;holding [v] (truthy v)):=by intro _;rfl):PT X e (tB t):=by
 intro ae s σ H Q I b;refine isTrue_plain (aQ (h ae s σ H _ I b) λv i ⟨x,H1,c,f,g⟩=>?_) (a _);obtain⟨d,rfl,q⟩:=g;cases f;exact nO ⟨H1,c,q⟩
variable{tA yO:TT}{rest:DD}
def XM(t u:TT):TT:=λσ H Q=>t σ H λc H1=>if c=true then u σ H1 Q else Q false H1
def X5(t u:TT):TT:=λσ H Q=>t σ H λc H1=>if c=true then Q true H1 else u σ H1 Q
def X4(t:TT):TT:=λσ H Q=>t σ H λc H1=>Q (!c) H1
theorem pw_and1(b:PT X a tA):PW X (.BoolOp .And [a] pos) tA:=by
 intro d ae s σ H Q I h;refine isTrue_and (aQ (b ae s σ H Q I h) λc f e=>?_);cases c with
 |true=>exact isTrue_and_nil e
 |false=>exact e
theorem pw_or1(b:PT X a tA):PW X (.BoolOp .Or [a] pos) tA:=by
 intro d ae s σ H Q I h;refine isTrue_or (aQ (b ae s σ H Q I h) λc f e=>?_);cases c with
 |false=>exact isTrue_or_nil e
 |true=>exact e
theorem pw_and(f:PT X a tA)(g:PW X (.BoolOp .And (b::rest) pos) yO):PW X (.BoolOp .And (a::b::rest) pos) (XM tA yO):=by
 intro i ae s σ H Q I h;refine isTrue_and (aQ (f ae s σ H _ I h) λc j ⟨H1,d,e⟩=>?_);cases c with
 |true=>exact g i ae j σ H1 Q d e
 |false=>exact⟨H1,d,e⟩
theorem pw_or(f:PT X a tA)(g:PW X (.BoolOp .Or (b::rest) pos) yO):PW X (.BoolOp .Or (a::b::rest) pos) (X5 tA yO):=by
 intro i ae s σ H Q I h;refine isTrue_or (aQ (f ae s σ H _ I h) λc j ⟨H1,d,e⟩=>?_);cases c with
 |true=>exact⟨H1,d,e⟩
 |false=>exact g i ae j σ H1 Q d e
theorem VY(b:PT X a tA):PT X (.UnaryOp .Not a pos) (X4 tA):=by
 intro ae s σ H Q I h;exact isTrue_not (b ae s σ H (λc H1=>Q (!c) H1) I h)
def XN(ta tb:TE):TE:=λσ H Q=>ta σ H λx H1=>∃c,x=.bl c/\if c=true then tb σ H1 Q else Q (.bl false) H1
theorem U'{op}{t:TE}(h:PE X a t):PE X (.BoolOp op [a] pos) t:=λae s σ H Q I b=>BoolOp_one (h ae s σ H Q I b)
theorem UT(f:PE X a ta)(g:PE X (.BoolOp .And (b::rest) pos) tb):PE X (.BoolOp .And (a::b::rest) pos) (XN ta tb):=by
 intro ae s σ H Q I h;refine BoolOp_and (aQ (f ae s σ H _ I h) λv i ⟨x,H1,e,j,d⟩=>?_);obtain⟨c,rfl,d⟩:=d;cases j;refine nO ?_;cases c with
 |true=>exact g ae i σ H1 Q e d
 |false=>exact⟨.bl false,H1,e,rfl,d⟩
end
def bf(K:Frag)(H:Hp)(a:Addr)(xs:Bn):Prop:=
 Rd H a (.lst xs)\/
  ∃(o:Obj) (its:Array Value) (n:Nat),K.lookup a=some o/\o.cls=.type "list"/\o.dict=none/\o.data=.seq its n/\its.size<=sizeLine/\Vals xs its.toList
def bV(K:Frag)(H:Hp)(a:Addr)(xs:Bn):Prop:=
 Rd H a (.tup xs)\/
  ∃(o:Obj) (its:Array Value) (n:Nat),K.lookup a=some o/\o.cls=.type "tuple"/\o.data=.seq its n/\its.size<=sizeLine/\Vals xs its.toList
noncomputable def MC:Value->Option V
 |.none=>some .aD
 |.bool b=>some (.bl b)
 |.int i _=>some (.int i)
 |.str x _=>some (.str x)
 |.bytes b _=>some (.kh b)
 |.float b _=>some (.qJ b)
 |.ref a=>some (.ref a)
 |.type n=>some (.ty n)
 |_=>none
theorem RelV.abs{x:V}{u:Value}(r:RelV x u):MC u=some x:=by
 cases x with
 |aD=>cases r;rfl
 |bl _=>cases r;rfl
 |int _=>obtain⟨t,rfl⟩:=r;rfl
 |str _=>obtain⟨t,rfl⟩:=r;rfl
 |kh _=>obtain⟨t,rfl⟩:=r;rfl
 |qJ _=>obtain⟨t,rfl⟩:=r;rfl
 |ref _=>cases r;rfl
 |ty _=>cases r;rfl
theorem RelV.inj{x y:V}{u:Value}(r:RelV x u)(q:RelV y u):x=y:=Option.some.inj (r.abs.symm.trans q.abs)
theorem Vals.inj:∀{xs ys:Bn} {a:BM},Vals xs a->Vals ys a->xs=ys
 |_,_,_,.nil,.nil=>rfl
 |_,_,_,.cons r t,.cons r' b=>by rw[r.inj r',Vals.inj t b]
section
variable{ae:aZ}{σ:St}{H:Hp}{s:Shared}{a:Addr}{xs ys:Bn}
theorem bf.of{K:Frag}(h:H a=some (.lst xs)):bf K H a xs:=.inl (.inl h)
theorem bV.of{K:Frag}(h:H a=some (.tup xs)):bV K H a xs:=.inl (.inl h)
theorem Inv.list(I:Inv X ae σ H s)(h:bf X.K H a xs):∃its:BM,Vals xs its/\PlainL s.heap a its.toArray/\xs.length<=sizeLine:=by
 rcases h with h|⟨o,its,n,b,hc,hd,c,d,r⟩
 .obtain⟨z,its,n,r,e⟩:=h.ok I.ar
  exact⟨its,r,⟨_,n,e,rfl,rfl,rfl⟩,z⟩
 .refine⟨its.toList,r,⟨o,n,I.fD a o b,hc,hd,by simpa using c⟩,?_⟩
  have e:=r.length;simp only[iB] at e;omega
theorem Inv.tuple(I:Inv X ae σ H s)(h:bV X.K H a xs):∃d:BM,Vals xs d/\IsTup s.heap a d.toArray/\xs.length<=sizeLine:=by
 rcases h with h|⟨o,d,n,b,hc,c,f,r⟩
 .obtain⟨z,d,r,p⟩:=h.ok I.ar
  exact⟨d,r,p.is,z⟩
 .refine⟨d.toList,r,⟨o,I.fD a o b,hc,n,by simpa using c⟩,?_⟩
  have e:=r.length;simp only[iB] at e;omega
theorem Inv.Lu(I:Inv X ae σ H s)(h:H a=some (.tup xs)):∃(b:BM) (n:Nat),Vals xs b/\s.heap.get? a=some {cls:=.type "tuple",data:=.seq b.toArray n}/\xs.length<=sizeLine:=by
 obtain⟨z,b,r,n,e⟩:=(show b9 X.prog X.w H s.heap a (.tup xs) from I.ar a _ h);exact⟨b,n,r,e,z⟩
theorem Inv.BQ(I:Inv X ae σ H s)(h:bf X.K H a xs)(h':bf X.K H a ys):xs=ys:=by
 obtain⟨g,r,⟨o,n,e,_,_,d⟩,_⟩:=I.list h;obtain⟨f,r',⟨o',n',b,_,_,i⟩,_⟩:=I.list h';rw[e] at b;cases b;rw[d] at i;injection i with c _;have:g=f:=by simpa using bM toList c
 subst this;exact r.inj r'
theorem Inv.Yr(I:Inv X ae σ H s)(h:bV X.K H a xs)(h':bV X.K H a ys):xs=ys:=by
 obtain⟨g,r,⟨o,e,_,n,d⟩,_⟩:=I.tuple h;obtain⟨f,r',⟨o',b,_,n',i⟩,_⟩:=I.tuple h';rw[e] at b;cases b;rw[d] at i;injection i with c _;have:g=f:=by simpa using bM toList c
 subst this;exact r.inj r'
end
section
variable{st:Stmt}{rest:FK}{t u:TS}{e:Expr}{te:TE}{pos:Pos}
def X0:TS:=λD σ H=>D.nx σ H
def X_(t u:TS):TS:=λD σ H=>t {D with nx:=u D} σ H
theorem VT:dF X [] X0:=λ_ _ σ H _ I h=>vm ⟨σ,H,I,h⟩
theorem VS(h1:PS X st t)(h2:dF X rest u):dF X (st::rest) (X_ t u):=by
 intro ae s σ H D I h;refine wpAny_execs_cons (aQ (h1 ae s σ H {D with nx:=u D} I h) λf a q=>?_);cases f with
 |next=>
  obtain⟨σ',H',b,q⟩:=q;exact h2 ae a σ' H' D b q
 |ret v=>exact q
 |brk=>exact q
 |cont=>exact q
theorem VU(h1:PS X st t):dF X [st] t:=by
 intro ae s σ H D I h;refine wpAny_execs_cons (aQ (h1 ae s σ H D I h) λf a q=>?_);cases f with
 |next=>exact vm q
 |ret v=>exact q
 |brk=>exact q
 |cont=>exact q
theorem Inv.quiet{ae:aZ}{σ:St}{H:Hp}{s:Shared}(I:Inv X ae σ H s):interactive X.env=false:=by simp[interactive,I.ok.kind]
def XU(te:TE):TS:=λD σ H=>te σ H λ_ H1=>D.nx σ H1
theorem VI(a:PE X e te)(b:swapsWith e none pos.line X.env=pure false:=by rfl):PS X (.Expr e pos) (XU te):=by
 intro ae s σ H D I h;exact wpAny_Expr_any (aQ (a ae s σ H _ I h) λv f ⟨x,H1,c,g,d⟩=>⟨σ,H1,c,d⟩) I.quiet b
def X8(te:TE):TS:=λD σ H=>te σ H D.rt
theorem VO(a:PE X e te):PS X (.Return (some e) pos) (X8 te):=by
 intro ae s σ H D I h;exact wpAny_Return_some (aQ (a ae s σ H _ I h) λv f ⟨x,H1,b,c,d⟩=>⟨x,σ,H1,b,c,d⟩)
def XX(c:TT)(t u:TS):TS:=λD σ H=>c σ H λb H1=>if b=true then t D σ H1 else u D σ H1
theorem VL{c:Expr}{a b:FK}{tc:TT}(hc:PT X c tc)(i:dF X a t)(j:dF X b u):PS X (.If c a b pos) (XX tc t u):=by
 intro ae s σ H D I h;refine wpAny_If (aQ (hc ae s σ H _ I h) λd e ⟨H1,f,g⟩=>?_);cases d with
 |true=>exact i ae e σ H1 D f g
 |false=>exact j ae e σ H1 D f g
end
abbrev TG:=V->St->Hp->(St->Hp->Prop)->Prop
abbrev kY:=Bn->St->Hp->(St->Hp->Prop)->Prop
def PG(X:Cx)(target:Expr)(t:TG):Prop:=
 ∀(ae:aZ) (s:Shared) (σ:St) (H:Hp) (v:V) (u:Value) (Q:St->Hp->Prop),Inv X ae σ H s->RelV v u->t v σ H Q->
  wpAny (model X.prog X.w) X.A (assign target X.env u) (λ_ s'=>∃σ' H',Inv X ae σ' H' s'/\Q σ' H') X.xe s
def kX(X:Cx)(ts:DD)(t:kY):Prop:=
 ∀(ae:aZ) (s:Shared) (σ:St) (H:Hp) (vs:Bn) (us:BM) (Q:St->Hp->Prop),Inv X ae σ H s->Vals vs us->t vs σ H Q->
  wpAny (model X.prog X.w) X.A (assignInOrder ((assignEach ts X.env).map (·.2)) us) (λ_ s'=>∃σ' H',Inv X ae σ' H' s'/\Q σ' H') X.xe s
abbrev z4:=V->V->V->Hp->(Hp->Prop)->Prop
def DV(X:Cx)(t:z4):Prop:=
 ∀(ae:aZ) (s:Shared) (σ:St) (H:Hp) (o i v:V) (ov iv u:Value) (Q:Hp->Prop),Inv X ae σ H s->RelV o ov->RelV i iv->RelV v u->t o i v H Q->
  wpAny (model X.prog X.w) X.A (setItem ov iv u) (λ_ s'=>∃H',Inv X ae σ H' s'/\Q H') X.xe s
abbrev vN:=V->V->Hp->VK->Prop
def DU(X:Cx)(op:Operator)(t:vN):Prop:=
 ∀(ae:aZ) (s:Shared) (σ:St) (H:Hp) (x y:V) (v u:Value) (Q:VK),Inv X ae σ H s->RelV x v->RelV y u->t x y H Q->
  wpAny (model X.prog X.w) X.A (inplaceOp op v u) (EP X ae σ Q) X.xe s
section
variable{pos:Pos}
def qL(i:Nat):TG:=λv σ H Q=>Q (σ.set i (some v)) H
theorem IQ{i:Nat}{x:Str}(a:X.N.Nodup)(hi:X.N[i]?=some x)(b:Loc X.env.scope x)(c:autoParam (X.fn x=true\/X.env.scope.names.lookup x=some .local) Zw):PG X (.Name x pos) (qL i):=by
 intro ae s σ H v u Q I r h;exact wpAny_assign_Name (rC I a hi b r (λs' d=>⟨_,H,d,h⟩) c)
def GJ:kY:=λvs σ H Q=>vs=[]/\Q σ H
def GI(t:TG)(u:kY):kY:=λvs σ H Q=>∃v r,vs=v::r/\t v σ H λσ' H'=>u r σ' H' Q
theorem pH:kX X [] GJ:=by
 intro ae s σ H vs a Q I r h;obtain⟨e,h⟩:=h;subst e;cases r;exact assignInOrder_nil ⟨σ,H,I,h⟩
theorem iP{e:Expr}{es:DD}{t:TG}{u:kY}(h1:PG X e t)(h2:kX X es u)
  (b:(assignEach (e::es) X.env).map (·.2)=assign e X.env::(assignEach es X.env).map (·.2):=by rfl):kX X (e::es) (GI t u):=by
 intro ae s σ H vs j Q I r h;obtain⟨v,vr,c,h⟩:=h;subst c;cases r with
 |cons r d=>
  rw[b];refine assignInOrder_cons (aQ (h1 ae s σ H _ _ _ I r h) λ_ f ⟨a,H1,g,i⟩=>?_);exact h2 ae f a H1 _ _ Q g d i
def GK(K:Frag)(n:Nat)(t:kY):TG:=λv σ H Q=>∃a xs,v=.ref a/\bV K H a xs/\xs.length=n/\t xs σ H Q
theorem pF{es:DD}{k:Nat}{t:kY}{n:Nat}(hc:X.calm=true)(h:kX X es t)
  (g:(assignEach es X.env).length=n:=by rfl)(c:(assignEach es X.env).findIdx? (·.1)=none:=by rfl):PG X (.Tuple es k pos) (GK X.K n t):=by
 intro ae s σ H v u Q I r d;obtain⟨a,xs,i,j,hl,d⟩:=d;subst i;cases r;obtain⟨q,f,l,w⟩:=I.tuple j;refine assign_Tuple_tuple (I.ok.hd hc) l (by simp[g,<-hl,f.length]) c λh' m=>?_;have p:Inv X ae σ H {s with heap:=h'}:=I.kept (t':=s.toks) λb o e=>m b o (bG (aW e)) e;exact h ae _ σ H xs _ Q p (by simpa using f) d
def Qy(to ti:TE)(t:z4):TG:=λv σ H Q=>to σ H λo H1=>ti σ H1 λi H2=>t o i v H2 λH3=>Q σ H3
theorem Vl{o i:Expr}{to ti:TE}{t:z4}(c:PE X o to)(hi:PE X i ti)(d:DV X t)
  (e:∀v,assign (.Subscript o i pos) X.env v=(do
   let a <-holding [v] (eval o X.env)
   let b <-holding [v,a] (eval i X.env)
   standAt pos
   holding [v,a,b] (setItem a b v)
   release [v,a,b] []):=by intro _;rfl):PG X (.Subscript o i pos) (Qy to ti t):=by
 intro ae s σ H v u Q I r h
 rw[e]
 refine ai (fV (aQ (c ae s σ H _ I h) λa f ⟨x,H1,g,j,k⟩=> ?_))
 refine ai (fV (aQ (hi ae f σ H1 _ g k) λb l ⟨y,H2,m,n,p⟩=> ?_))
 refine ai (vq (ai (fV (aQ (d ae l σ H2 x y v a b u _ m j n r p) λ_ A ⟨q,w,z⟩=> ?_))))
 exact wpAny_release ⟨σ,q,w,z⟩
def yN(te:TE)(g:TG):TS:=λD σ H=>te σ H λx H1=>g x σ H1 D.nx
theorem IX{tg e:Expr}{te:TE}{g:TG}(a:PE X e te)(b:PG X tg g)(c:swapsWithSole [tg] e pos.line X.env=pure false:=by rfl)(d:swappedStores [tg] e X.env=pure none:=by rfl)
  (h1:(assignEach [tg] X.env).map (·.2)=[assign tg X.env]:=by rfl):PS X (.Assign [tg] e pos) (yN te g):=by
 intro ae s σ H D I h;refine wpAny_Assign_stores (aQ (a ae s σ H _ I h) λv f ⟨x,H1,i,j,k⟩=>?_) c d;rw[h1];exact aQ (b ae f σ H1 x v _ i j k) λ_ l q=>q
theorem VP{i:Nat}{x:Str}{e:Expr}{te:TE}{pos':Pos}(a:X.N.Nodup)(hi:X.N[i]?=some x)(b:Loc X.env.scope x)(c:PE X e te)(d:swapsWith e (some (.Name x pos')) pos.line X.env=pure false:=by rfl)(f:autoParam (X.fn x=true\/X.env.scope.names.lookup x=some .local) Zw):
  PS X (.Assign [.Name x pos'] e pos) (yN te (qL i)):=by
 intro ae s σ H D I h;refine wpAny_Assign_Name (aQ (c ae s σ H _ I h) λv m ⟨y,H1,g,j,k⟩=>?_) d;exact rC g a hi b j (λn l=>⟨_,H1,l,k⟩) f
def X6(i j:Nat)(ta:TA):TS:=λD σ H=>ta σ H λvs H1=>∃v w,vs=[v,w]/\D.nx ((σ.set i (some v)).set j (some w)) H1
theorem VM{i j:Nat}{x y:Str}{a b:Expr}{ta:TA}{px py pt:Pos}{kt V c}(hc:X.calm=true)(r:X.N.Nodup)(hi:X.N[i]? =some x)(B:X.N[j]? =some y)(k:i≠j)
  (t:X.env.scope.names.lookup x=some .local)(u:X.env.scope.names.lookup y=some .local)(C:PA X [a,b] ta)
  (E:swappedStores [.Tuple [.Name x px,.Name y py] kt pt] (.Tuple [a,b] V c) X.env=pure (some [x,y]))
  (F:swapsWithSole [.Tuple [.Name x px,.Name y py] kt pt] (.Tuple [a,b] V c) pos.line X.env=pure false:=by rfl):
  PS X (.Assign [.Tuple [.Name x px,.Name y py] kt pt] (.Tuple [a,b] V c) pos) (X6 i j ta):=by
 intro ae s σ H D I h
 rw[exec_Assign_arm]
 refine ai (vq ?_)
 rw[F]
 refine ai (aK ?_)
 rw[av δ]
 refine ai (Tuple_ (aQ (C _ ae s σ H _ I h) λG d ⟨vs,H1,J,K,l⟩=> ?_))
 obtain⟨v,w,L,l⟩:=l
 subst L
 obtain⟨f,g,rfl,M,m⟩:∃f g,G=[f,g]/\RelV v f/\RelV w g:=by
  cases K with
  |cons p q=>
   cases q with
   |cons O P=>
    cases P
    exact⟨_,_,rfl,p,O⟩
 refine jB ?_ (by show 2<=sizeLine;decide)
 have Q:Inv X ae σ H1 {d with heap:=d.heap.push {cls:= .type "tuple",data:= .seq [f,g].toArray}}:=J.kept (t':=d.toks) λb o e=>bu _ e
 rw[E]
 refine ai (aK ?_)
 show wpAny (model X.prog X.w) X.A (do rule "assign.swapped-stores";let items <-unpackItems (.ref d.heap.objs.size) 2 none;assignInOrder [λv=>bindName X.env y v,λv=>bindName X.env x v] items.reverse;pure Flow.next) _ _ _
 refine ai (lM (ai (unpackItems_tuple (items:= #[f,g]) (I.ok.hd hc) (IsTup.new d.heap _) λh' n=> ?_)))
 have R:=Q.kept (h':=h') (t':=d.toks) λb o e=>n b o (bG (aW e)) e
 show wpAny _ _ (assignInOrder [λv=>bindName X.env y v,λv=>bindName X.env x v] [g,f]>>=λ_=>pure Flow.next) _ _ _
 refine ai (assignInOrder_cons (wpAny_bindName (rC R r B (.inl u) m (λT S=> ?_) (.inr u))))
 refine assignInOrder_cons (wpAny_bindName (rC S r hi (.inl t) M (λU z=>assignInOrder_nil (aK ?_)) (.inr t)))
 rw[List.set_comm _ _ (Ne.symm k)] at z
 exact⟨_,H1,z,l⟩
def XO(i:Nat)(te:TE)(ti:vN):TS:=λD σ H=>∃x,σ[i]?=some (some x)/\te σ H λy H1=>ti x y H1 λz H2=>D.nx (σ.set i (some z)) H2
theorem VG{i:Nat}{x:Str}{e:Expr}{te:TE}{op:Operator}{ti:vN}{pos':Pos}(j:X.N.Nodup)(hi:X.N[i]?=some x)(f:Loc X.env.scope x)(n:PE X e te)(o:DU X op ti)(p:autoParam (X.fn x=true\/X.env.scope.names.lookup x=some .local) Zw):
  PS X (.AugAssign (.Name x pos') op e pos) (XO i te ti):=by
 intro ae s σ H D I h;obtain⟨v,q,h⟩:=h;obtain⟨m,t,hl⟩:=I.loc;have g:qu X.env.scope x:=by rcases f with k|k;exact .inl k;exact .inr (.inl k)
 obtain⟨u,r,l⟩:=hl i x v hi q g;refine wpAny_AugAssign_Name ?_;have go:wpAny (model X.prog X.w) X.A (eval e X.env) (λw b=>wpAny (model X.prog X.w) X.A (inplaceOp op u w) (λr d=>wpAny (model X.prog X.w) X.A (storeName X.env x r) (λ_=>SP X ae D .next) X.xe d) X.xe b) X.xe s:=by
  refine aQ (n ae s σ H _ I h) λw B ⟨y,H1,C,E,F⟩=>?_;refine aQ (o ae B σ H1 v y u w _ C r E F) λz O ⟨P,H2,G,J,K⟩=>?_;exact rC G j hi f J (λQ L=>⟨_,H2,L,K⟩) p
 rcases l with⟨hk,M⟩|⟨hk,c,hc,a⟩
 .exact wpAny_loadName_local I.ok.kind hk t M go
 .rcases hk with hk|hk
  .exact wpAny_loadName_cell I.ok.kind hk hc a go
  .rcases f with k|k
   .have:X.env.scope.names.lookup x=some .free:=hk
    rw[k] at this;cases this
   .have:X.env.scope.names.lookup x=some .free:=hk
    rw[k] at this;cases this
def RU(f:Int->Int->Int):vN:=λx y H Q=>∃i j,x=.int i/\y=.int j/\Q (.int (f i j)) H
theorem RW:DU X .Add (RU λi j=>i+j):=by
 intro ae s σ H x y v u Q I a b h;obtain⟨i,j,c,d,q⟩:=h;subst c;subst d;obtain⟨t,rfl⟩:=a;obtain⟨e,rfl⟩:=b;exact iadd_int ⟨.int _,H,I.tok _,⟨_,rfl⟩,q⟩
def Yj(c:TT)(tb:TS):TS:=λD σ H=>∃W:Nat->St->Hp->Prop,(∃m,W m σ H)/\∀m σ H,W m σ H->
 c σ H λb H1=>if b=true then ∃N:St->Hp->Prop,(∀σ' H',N σ' H'->∃m',m'<m/\W m' σ' H')/\tb {D with nx:=N,ct:=N,bk:=D.nx} σ H1 else D.nx σ H1
theorem VR{c:Expr}{body:FK}{tc:TT}{tb:TS}(o:PassesOwn (model X.prog X.w) X.A X.env X.xe)(hc:PT X c tc)(r:dF X body tb):PS X (.While c body [] pos) (Yj tc tb):=by
 intro ae s σ H D I h;obtain⟨W,⟨m0,t⟩,turn⟩:=h;refine wpAny_While (codeAny_whileLoop (λn s'=>∃σ' H',Inv X ae σ' H' s'/\W n σ' H') ?_ m0 ⟨σ,H,I,t⟩);rintro n u ⟨d,H1,x,y⟩;refine p6 o (aQ (hc ae u d H1 _ x (turn n d H1 y)) λb z ⟨H2,p,g⟩=>?_);cases b with
 |true=>
  obtain⟨N,q,g⟩:=g;rw[aB rfl];refine p6 o (aQ (r ae z d H2 _ p g) λf B i=>?_);cases f with
  |next=>
   obtain⟨a,e,j,n3⟩:=i;obtain⟨k,l,m⟩:=q a e n3;exact⟨k,l,a,e,j,m⟩
  |cont=>
   obtain⟨a,e,j,n3⟩:=i;obtain⟨k,l,m⟩:=q a e n3;exact⟨k,l,a,e,j,m⟩
  |brk=>exact i
  |ret v=>exact i
 |false=>
  rw[av cC];exact vm ⟨d,H2,p,g⟩
end
structure It where
 go:Nat->Hp->Prop
 u6:Nat->Hp->V->Hp->Prop
 stop:Nat->Hp->Prop
def iH(X:Cx)(ae:aZ)(H:Hp)(b:Addr):Prop:=
 H b=none/\b≠X.env.locals/\b∉X.fs/\(b∈X.ex\/X.s₀.heap.objs.size<=b)/\(∀x c,X.env.cells.lookup x=some c->c≠b)/\∀p∈X.pn++ae,p.1≠b
theorem Inv.ng{X:Cx}{ae:aZ}{σ:St}{H H':Hp}{s:Shared}{b:Addr}(I:Inv X ae σ H s)(a:s.heap.objs.size<=b)(d:H' b=none):iH X ae H' b:=by
 refine⟨d,mQ (dj I.lt a),I.T8 a,.inr (d7 I.sz a),λx c e z=>?_,λp f z=>?_⟩
 .obtain⟨v,q⟩:=I.cell x c e
  exact absurd (dj q.lt (by rw[z];exact a)) (gu _)
 .exact absurd (dj (aW (I.pin p f).1) (by rw[z];exact a)) (gu _)
structure Turn(P:Program)(w:World)(K:Frag)(tg:Expr)(J:It)(fp:D1)(it:Addr)(tn:Nat->Heap->Prop):Prop where
 mem:it∈fp
 obj:∀i h,tn i h->∀b∈fp,∃o,h.get? b=some o/\∀v,o.data≠ .cell v
 keep:∀i h h',tn i h->(∀b∈fp,∀o,h.get? b=some o->h'.get? b=some o)->tn i h'
 item:∀(X:Cx),X.prog=P->X.w=w->X.K=K->X.calm=true->∀(i:Nat) (ae:aZ) (s:Shared) (σ:St) (H:Hp) (E:aV),Inv X ae σ H s->(∀b∈fp,iH X ae H b)->tn i s.heap->J.go i H->
  wpAny (model P w) X.A (pyNext (.ref it)) (λr s1=>∃u,r=some u/\
   wpAny (model P w) X.A (letOwnedTupleGo tg (.ref it) u) (λ_ s2=>∃x H',Inv X ae σ H' s2/\RelV x u/\J.u6 i H x H'/\tn (i+1) s2.heap/\∀b∈fp,H' b=none) E s1) E s
 done:∀(X:Cx),X.prog=P->X.w=w->X.K=K->X.calm=true->∀(i:Nat) (ae:aZ) (s:Shared) (σ:St) (H:Hp) (E:aV),Inv X ae σ H s->(∀b∈fp,iH X ae H b)->tn i s.heap->J.stop i H->
  wpAny (model P w) X.A (pyNext (.ref it)) (λr s1=>r=none/\Inv X ae σ H s1) E s
 self:∀(A:Around) (i:Nat) (s:Shared) (Q:aV) (E:aV),tn i s.heap->Q (.ref it) s->wpAny (model P w) A (pyIter (.ref it)) Q E s
abbrev TI:=St->Hp->(It->Hp->Prop)->Prop
def zP(X:Cx)(ae:aZ)(σ:St)(tg:Expr)(R:It->Hp->Prop)(itv:Value)(s2:Shared):Prop:=
 ∃(it:Addr) (fp:D1) (tn:Nat->Heap->Prop) (J:It) (H':Hp),itv=.ref it/\Inv X ae σ H' s2/\Turn X.prog X.w X.K tg J fp it tn/\tn 0 s2.heap/\(∀b∈fp,iH X ae H' b)/\R J H'
def PI(X:Cx)(tg iter:Expr)(wi:TI):Prop:=
 ∀(ae:aZ) (s:Shared) (σ:St) (H:Hp) (R:It->Hp->Prop),Inv X ae σ H s->wi σ H R->
  wpAny (model X.prog X.w) X.A (eval iter X.env) (λv s1=>wpAny (model X.prog X.w) X.A (pyIter v) (zP X ae σ tg R) X.xe s1) X.xe s
theorem tN{M:Model}{A:Around}{E:aV}{s:Shared}{tg:Expr}{it:Addr}{u:Value}{o:Obj}{n:String}{vs:Array Value}{Q:Unit->Shared->Prop}(b:s.heap.get? it=some o)(hc:o.cls=.type n)(hd:o.data=.fields vs)
  (c:["enumerate","zip","dict_itemiterator","dict_reverseitemiterator","odict_iterator","itertools.zip_longest","itertools.pairwise"].contains n=false)(a:Q () s):wpAny M A (letOwnedTupleGo tg (.ref it) u) Q E s:=by
 unfold letOwnedTupleGo;cases tg<;>first
  |exact aK a
  |(cases u<;>first
    |exact aK a
    |(refine ai (wpAny_load b ?_)
      rw[hc,hd];show wpAny M A (if (["enumerate","zip","dict_itemiterator","dict_reverseitemiterator","odict_iterator","itertools.zip_longest","itertools.pairwise"].contains n&&vs[0]? ==some (rawInt _))=true then _ else _) Q E s;rw[av (by intro h;rw[c,Bool.false_and] at h;cases h)];exact aK a))
noncomputable def su(K:Frag)(a:Addr):It:=
 ⟨λi H=>∃xs x,bf K H a xs/\xs[i]?=some x,λi H x H'=>H'=H/\∀xs,bf K H a xs->xs[i]?=some x,λi H=>∃xs,bf K H a xs/\xs.length<=i⟩
noncomputable def vG(K:Frag)(a:Addr):It:=
 ⟨λi H=>∃xs x,bV K H a xs/\xs[i]?=some x,λi H x H'=>H'=H/\∀xs,bV K H a xs->xs[i]?=some x,λi H=>∃xs,bV K H a xs/\xs.length<=i⟩
noncomputable def sy(lo:Int)(n:Nat):It:=⟨λi _=>i<n,λi H x H'=>H'=H/\x=.int (lo+i),λi _=>n<=i⟩
theorem Yw{P:Program}{w:World}{K:Frag}{tg:Expr}(a it:Addr):Turn P w K tg (su K a) [it] it (λi h=>h.IsListIter it a i) where
 mem:=θ
 obj:=λi h st b f=>by
  have e:b=it:=by simpa using f
  subst e
  obtain⟨o,e,c,d⟩:=st
  exact⟨o,e,λv z=>by rw[d] at z;cases z⟩
 keep:=λi h h' st k=>st.at λo e=>k it θ o e
 item:=by
  intro X m n q hc i ae s σ H E I j st r
  subst m n q
  obtain⟨xs,x,l,t⟩:=r
  obtain⟨M,y,p,O⟩:=I.list l
  obtain⟨u,C,D⟩:=y.get t
  obtain⟨f0,N,Q,A,f4,B⟩:=j it θ
  refine wpAny_pyNext_list_item st p.isList (x:=u) (by simpa using C) λh' g F=> ?_
  have G:Inv X ae σ H {s with heap:=h'}:=I.turned (t':=s.toks) (λb o f e=>(F.2 b f).trans e) f0 N A f4 B
  obtain⟨o,e,c,d⟩:=id g
  exact⟨u,rfl,tN (s:={s with heap:=h'}) e c d δ ⟨x,H,G,D,⟨rfl,λys J=>by rw[I.BQ J l];exact t⟩,g,λb f=>(j b f).1⟩⟩
 done:=by
  intro X m n q hc i ae s σ H E I j st r
  subst m n q
  obtain⟨xs,l,t⟩:=r
  obtain⟨M,y,p,O⟩:=I.list l
  obtain⟨f0,N,Q,A,f4,B⟩:=j it θ
  have hl:=y.length
  exact wpAny_pyNext_list_end (I.ok.hd hc) st p.isList (by simp;omega) λh' L=>⟨rfl,I.turned (t':=s.toks) (λb o f e=>L b o f e) f0 N A f4 B⟩
 self:=λ_ _ _ _ _ st h=>wpAny_pyIter_listiter st h
theorem YB{P:Program}{w:World}{K:Frag}{tg:Expr}(a it:Addr):Turn P w K tg (vG K a) [it] it (λi h=>h.IsTupleIter it a i) where
 mem:=θ
 obj:=λi h st b f=>by
  have e:b=it:=by simpa using f
  subst e
  obtain⟨o,e,c,d⟩:=st
  exact⟨o,e,λv z=>by rw[d] at z;cases z⟩
 keep:=λi h h' st k=>st.at λo e=>k it θ o e
 item:=by
  intro X m n q hc i ae s σ H E I j st r
  subst m n q
  obtain⟨xs,x,l,t⟩:=r
  obtain⟨M,y,p,O⟩:=I.tuple l
  obtain⟨u,C,D⟩:=y.get t
  obtain⟨f0,N,Q,A,f4,B⟩:=j it θ
  refine wpAny_pyNext_tuple_item st (show s.heap.IsTuple a M.toArray from p) (x:=u) (by simpa using C) λh' g F=> ?_
  have G:Inv X ae σ H {s with heap:=h'}:=I.turned (t':=s.toks) (λb o f e=>(F.2 b f).trans e) f0 N A f4 B
  obtain⟨o,e,c,d⟩:=id g
  exact⟨u,rfl,tN (s:={s with heap:=h'}) e c d δ ⟨x,H,G,D,⟨rfl,λys J=>by rw[I.Yr J l];exact t⟩,g,λb f=>(j b f).1⟩⟩
 done:=by
  intro X m n q hc i ae s σ H E I j st r
  subst m n q
  obtain⟨xs,l,t⟩:=r
  obtain⟨M,y,p,O⟩:=I.tuple l
  obtain⟨f0,N,Q,A,f4,B⟩:=j it θ
  have hl:=y.length
  exact wpAny_pyNext_tuple_end (I.ok.hd hc) st (show s.heap.IsTuple a M.toArray from p) (by simp;omega) λh' L=>⟨rfl,I.turned (t':=s.toks) (λb o f e=>L b o f e) f0 N A f4 B⟩
 self:=λ_ _ _ _ _ st h=>wpAny_pyIter_tupleiter st h
theorem Yy{P:Program}{w:World}{K:Frag}{tg:Expr}(it:Addr)(lo:Int)(n:Nat):Turn P w K tg (sy lo n) [it] it (λi h=>IsRangeIter h it (lo+(i:Nat)*1) ((n:Int) - (i:Nat)) 1) where
 mem:=θ
 obj:=λi h st b a=>by
  have e:b=it:=by simpa using a
  subst e
  exact⟨_,st,λv z=>by
   have r:Data.fields _=Data.cell v:=z
   cases r⟩
 keep:=λi h h' st k=>k it θ _ st
 item:=by
  intro X f g j hc i ae s σ H E I d st l
  subst f g j
  obtain⟨f0,B,C,m,f4,p⟩:=d it θ
  have W:=Walks.range (prog:=X.prog) (w:=X.w) (I.ok.hd hc) it lo 1 n
  refine W.item i s _ _ l st λv h' q u c x=> ?_
  obtain⟨t,rfl⟩:=u
  have y:Inv X ae σ H {s with heap:=h',toks:=q}:=I.turned (λb o a e=>x b o (by simpa using a) e) f0 B m f4 p
  refine⟨_,rfl,tN (s:={s with heap:=h',toks:=q}) (n:="range_iterator") c rfl rfl δ ⟨.int (lo+i),H,y,⟨t,?_⟩,⟨rfl,rfl⟩,c,λb a=>(d b a).1⟩⟩
  rw[Int.mul_one]
 done:=by
  intro X f g j hc i ae s σ H E I d st l
  subst f g j
  obtain⟨f0,B,C,m,f4,p⟩:=d it θ
  exact wpAny_pyNext_range_end (I.ok.hd hc) st (by have:n<=i:=l;omega) λh' A=>⟨rfl,I.turned (t':=s.toks) (λb o a e=>A b o a e) f0 B m f4 p⟩
 self:=λ_ _ _ _ _ st h=>wpAny_pyIter_rangeiter st h
section
variable{tg:Expr}
theorem V8{ae:aZ}{σ:St}{H:Hp}{s:Shared}{R:It->Hp->Prop}{E:aV}{lo hi:Int}{t u v:Tok}{a:Nat}(I:Inv X ae σ H s)(h1: -(2 ^ 62)<=lo)(h2:lo<2 ^ 62)(d: -(2 ^ 62)<=hi)(f:hi<2 ^ 62)
  (q:R (sy lo (hi - lo).toNat) H):wpAny (model X.prog X.w) X.A (pyIter (.ref s.heap.objs.size)) (zP X ae σ tg R) E {s with heap:=s.heap.push {cls:=.type "range",data:=.fields #[.int lo t,.int hi u,.int 1 v]},toks:=a}:=by
 refine wpAny_pyIter_range (IsRange.new ..) (small_one h1 h2 d f) ?_;have c:Inv X ae σ H {s with heap:=s.heap.push {cls:=.type "range",data:=.fields #[.int lo t,.int hi u,.int 1 v]},toks:=a}:=I.kept λb o e=>bu _ e;refine⟨(s.heap.push {cls:=.type "range",data:=.fields #[.int lo t,.int hi u,.int 1 v]}).objs.size,[(s.heap.push {cls:=.type "range",data:=.fields #[.int lo t,.int hi u,.int 1 v]}).objs.size],_,_,H,rfl,
  c.kept (t':=a) λb o e=>bu _ e,Yy _ lo (hi - lo).toNat,?_,λb g=>?_,q⟩
 .have h:lo+((0:Nat):Int)*1=lo:=θ
  have i:(((hi - lo).toNat:Nat):Int) - ((0:Nat):Int)=Builtin.Range.rangeSize lo hi 1:=by rw[rangeSize_one];split<;>omega
  show IsRangeIter _ _ (lo+((0:Nat):Int)*1) ((((hi - lo).toNat:Nat):Int) - ((0:Nat):Int)) 1;rw[h,i];exact cS _ rfl
 .have e:b=(s.heap.push {cls:=.type "range",data:=.fields #[.int lo t,.int hi u,.int 1 v]}).objs.size:=by simpa using g
  subst e;exact c.ng (aJ _) (c.ar.fresh (aJ _))
def RI(ta:TA):TI:=λσ H R=>ta σ H λvs H1=>∃j:Int,vs=[.int j]/\-(2 ^ 62)<=j/\j<2 ^ 62/\R (sy 0 j.toNat) H1
theorem Vo{a:Expr}{ta:TA}{p pos:Pos}(c:Gl X "range")(d:X.mg "range"=none)(f:PA X [a] ta)(g:starEach [a] X.env=[(false,eval a X.env)]:=by rfl):PI X tg (.Call (.Name "range" p) [a] [] pos) (RI ta):=by
 intro ae s σ H R I h;refine Call_ (jr I c d boot_range (mK (aQ (f pos ae s σ H _ I h) λn o ⟨vs,H1,i,k,b⟩=>?_) g rfl));obtain⟨j,e,b,l,q⟩:=b;subst e;cases k with
 |cons r m=>
  cases m;obtain⟨t,rfl⟩:=r;exact call_range_1 (V8 i ω ω b l (by simpa using q))
def XW(wi:TI)(g:TG)(tb:TS):TS:=λD σ H=>wi σ H λJ H1=>∃W:Nat->Nat->St->Hp->Prop,(∃m,W 0 m σ H1)/\∀i m σ H,W i m σ H->
 (J.stop i H/\D.nx σ H)\/(J.go i H/\∃N:St->Hp->Prop,(∀σ' H',N σ' H'->∃m',m'<m/\W (i+1) m' σ' H')/\∀x H',J.u6 i H x H'->g x σ H' λσ2 H2=>tb {D with nx:=N,ct:=N,bk:=D.nx} σ2 H2)
def uJ(fp:D1)(h:Heap):aZ:=fp.filterMap λb=>(h.get? b).map λo=>(b,o)
theorem xG{fp:D1}{h:Heap}{b:Addr}{o:Obj}(a:b∈fp)(e:h.get? b=some o):(b,o)∈uJ fp h:=u_.mpr ⟨b,a,by rw[e];rfl⟩
theorem Uj{fp:D1}{h:Heap}{p:Addr×Obj}(a:p∈uJ fp h):p.1∈fp/\h.get? p.1=some p.2:=by
 obtain⟨b,c,e⟩:=u_.mp a;cases q:h.get? b with
 |none=>rw[q] at e;cases e
 |some o=>
  rw[q] at e;have d:(b,o)=p:=Option.some.inj e;subst d;exact⟨c,q⟩
theorem Inv.pinned{ae:aZ}{σ:St}{H:Hp}{s:Shared}{fp:D1}(I:Inv X ae σ H s)(f:∀b∈fp,iH X ae H b)(g:∀b∈fp,∃o,s.heap.get? b=some o/\∀v,o.data≠ .cell v):Inv X (ae++uJ fp s.heap) σ H s:=
 I.IT λp h=>(bR.mp h).elim (λz=>I.pin p (jx _ z)) λz=>by
  obtain⟨a,e⟩:=Uj z;obtain⟨f0,i,j,_⟩:=f p.1 a;obtain⟨o,c,d⟩:=g p.1 a;rw[e] at c;cases c;exact⟨e,f0,i,j,d⟩
theorem Inv.u5{ae pl:aZ}{σ:St}{H:Hp}{s:Shared}(I:Inv X (ae++pl) σ H s):Inv X ae σ H s:=I.IT λp a=>I.pin p (jx _ (nH _ a))
theorem VJ{iter:Expr}{body:FK}{wi:TI}{g:TG}{tb:TS}{pos:Pos}(y:PassesOwn (model X.prog X.w) X.A X.env X.xe)(hc:X.calm=true)(hi:PI X tg iter wi)(S:PG X tg g)(c:dF X body tb)
  (U:∀x,foldedSetIterable iter X.env x=pure x:=by intro _;rfl):PS X (.For tg iter body [] pos) (XW wi g tb):=by
 intro ae s σ H D I h;refine wpAny_For (aQ (hi ae s σ H _ I h) λv s1 h1=>aQ h1 λV s2 h2=>?_) U;obtain⟨it,fp,O,J,H2,e,Y,T,E,f2,W,⟨m0,Z⟩,turn⟩:=h2;subst e;have j:∀{H':Hp},(∀b∈fp,H' b=none)->∀b∈fp,iH X ae H' b:=λhn b c=>⟨hn b c,(f2 b c).2⟩;refine codeAny_forLoop_any (λn s'=>∃i σ' H',Inv X ae σ' H' s'/\O i s'.heap/\(∀b∈fp,H' b=none)/\W i n σ' H') ?_ m0 ⟨0,σ,H2,Y,E,λb c=>(f2 b c).1,Z⟩;rintro n P ⟨i,k,C,Q,z,B,w3⟩;rcases turn i n k C w3 with⟨stop,qn⟩|⟨go,N,hN,step⟩
 .refine p6 y (aQ (T.done X rfl rfl rfl hc i ae P k C X.xe Q (j B) z stop) λr s4 ⟨F,I4⟩=>?_)
  subst F;exact vm ⟨k,C,I4,qn⟩
 .refine p6 y (aQ (T.item X rfl rfl rfl hc i ae P k C X.xe Q (j B) z go) λr s4 ⟨u,F,h4⟩=>?_)
  subst F;refine p6 y (aQ h4 λ_ s5 ⟨x,R,I5,r5,y5,t,G⟩=>?_);have K:=I5.pinned (j G) (T.obj _ _ t);refine p6 y (aQ (S _ s5 k R x u _ K r5 (step x R y5)) λ_ s6 ⟨L,H6,I6,q6⟩=>?_);refine p6 y (aQ (c _ s6 L H6 _ I6 q6) λf M q=>?_);have again:∀{a:St} {l:Hp},Inv X (ae++uJ fp s5.heap) a l M->N a l->∃m,m<n/\∃i σ' H',Inv X ae σ' H' M/\O i M.heap/\(∀b∈fp,H' b=none)/\W i m σ' H':=λ {a l} p n7=>by
   obtain⟨m',hm,w7⟩:=hN a l n7;refine⟨m',hm,i+1,a,l,p.u5,T.keep _ _ _ t λb c o e=>(p.pin (b,o) (jx _ (jx _ (xG c e)))).1,λb c=>?_,w7⟩;obtain⟨o,e,d⟩:=T.obj _ _ t b c;exact(p.pin (b,o) (jx _ (jx _ (xG c e)))).2.1
  cases f with
  |next=>obtain⟨a,l,p,n7⟩:=q;exact again p n7
  |cont=>obtain⟨a,l,p,n7⟩:=q;exact again p n7
  |brk=>obtain⟨a,l,p,q⟩:=q;exact⟨a,l,p.u5,q⟩
  |ret v=>obtain⟨x7,a,l,p,r7,q⟩:=q;exact⟨x7,a,l,p.u5,r7,q⟩
end
abbrev R2:=V->V->Hp->VK->Prop
def bH(X:Cx)(f:Value->Value->Sem Value)(r:R2):Prop:=
 ∀(ae:aZ) (s:Shared) (σ:St) (H:Hp) (x y:V) (v u:Value) (Q:VK),Inv X ae σ H s->RelV x v->RelV y u->r x y H Q->
  wpAny (model X.prog X.w) X.A (f v u) (EP X ae σ Q) X.xe s
def z5(X:Cx)(f:Value->Sem Value)(r:V->Hp->VK->Prop):Prop:=
 ∀(ae:aZ) (s:Shared) (σ:St) (H:Hp) (x:V) (v:Value) (Q:VK),Inv X ae σ H s->RelV x v->r x H Q->
  wpAny (model X.prog X.w) X.A (f v) (EP X ae σ Q) X.xe s
def fy(X:Cx)(f:Value)(r:Bn->Hp->VK->Prop):Prop:=
 ∀(ae:aZ) (s:Shared) (σ:St) (H:Hp) (xs:Bn) (us:BM) (Q:VK),Inv X ae σ H s->Vals xs us->r xs H Q->
  wpAny (model X.prog X.w) X.A (call f us) (EP X ae σ Q) X.xe s
def uW(r:R2)(ta tb:TE):TE:=λσ H Q=>ta σ H λx H1=>tb σ H1 λy H2=>r x y H2 Q
def Yh(r:V->Hp->VK->Prop)(ta:TE):TE:=λσ H Q=>ta σ H λx H1=>r x H1 Q
def rI(C:Int->Int->Prop)(g:Int->Int->V):R2:=λx y H Q=>∃i j,x=.int i/\y=.int j/\C i j/\Q (g i j) H
def jP(g:Int->Int->V):R2:=λx y H Q=>∃i j,x=.int i/\y=.int j/\Q (g i j) H
def rU(g:Int->V):V->Hp->VK->Prop:=λx H Q=>∃i,x=.int i/\Q (g i) H
section
variable{a b c:Expr}{ta tb tc:TE}{pos:Pos}
theorem Af(g:PE X a ta)(i:PE X b tb){ae:aZ}{s:Shared}{σ:St}{H:Hp}{R:V->V->Hp->Prop}(I:Inv X ae σ H s)
  (h:ta σ H λx H1=>tb σ H1 λy H2=>R x y H2){Q:aV}{f:Value->Value->Sem Value}
  (j:∀v u e x y H2,Inv X ae σ H2 e->RelV x v->RelV y u->R x y H2->wpAny (model X.prog X.w) X.A (f v u) Q X.xe e):
  wpAny (model X.prog X.w) X.A (eval a X.env) (λv c=>wpAny (model X.prog X.w) X.A (eval b X.env) (λu d=>wpAny (model X.prog X.w) X.A (f v u) Q X.xe d) X.xe c) X.xe s:=by
 refine aQ (g ae s σ H _ I h) λv k ⟨x,H1,l,m,n⟩=> ?_
 refine aQ (i ae k σ H1 _ l n) λu e ⟨y,H2,o,p,q⟩=> ?_
 exact j v u e x y H2 o m p q
theorem Va{op:Operator}{r:R2}(c:bH X (binaryOp op) r)(d:PE X a ta)(e:PE X b tb):PE X (.BinOp a op b pos) (uW r ta tb):=by
 intro ae s σ H Q I h;exact wpAny_BinOp (Af d e I h λv u f x y H2 g i j q=>c ae f σ H2 x y v u Q g i j q)
theorem Vg{op:UnaryOp}{r:V->Hp->VK->Prop}(b:z5 X (unaryOp op) r)(c:PE X a ta):PE X (.UnaryOp op a pos) (Yh r ta):=by
 intro ae s σ H Q I h;exact UnaryOp_ (aQ (c ae s σ H _ I h) λv d ⟨x,H1,e,f,g⟩=>b ae d σ H1 x v Q e f g)
theorem Cd{f:Value->Value->Sem Value}{C:Int->Int->Prop}{g:Int->Int->Int}
  (rule:∀(i j:Int) (t u:Tok) (s:Shared) (Q:aV) (E:aV),C i j->Q (.int (g i j) s.toks) {s with toks:=s.toks+1}->wpAny (model X.prog X.w) X.A (f (.int i t) (.int j u)) Q E s):
  bH X f (rI C λi j=>.int (g i j)):=by
 intro ae s σ H x y v u Q I a b h;obtain⟨i,j,rfl,rfl,hc,q⟩:=h;obtain⟨t,rfl⟩:=a;obtain⟨c,rfl⟩:=b;exact rule i j t c s _ _ hc ⟨.int (g i j),H,I.tok _,⟨_,rfl⟩,q⟩
theorem ID{f:Value->Value->Sem Value}{g:Int->Int->Int}
  (rule:∀(i j:Int) (t u:Tok) (s:Shared) (Q:aV) (E:aV),Q (.int (g i j) s.toks) {s with toks:=s.toks+1}->wpAny (model X.prog X.w) X.A (f (.int i t) (.int j u)) Q E s):
  bH X f (jP λi j=>.int (g i j)):=by
 intro ae s σ H x y v u Q I a b h;obtain⟨i,j,rfl,rfl,q⟩:=h;obtain⟨t,rfl⟩:=a;obtain⟨c,rfl⟩:=b;exact rule i j t c s _ _ ⟨.int (g i j),H,I.tok _,⟨_,rfl⟩,q⟩
theorem Cb{f:Value->Value->Sem Value}{g:Int->Int->Bool}
  (rule:∀(i j:Int) (t u:Tok) (s:Shared) (Q:aV) (E:aV),Q (.bool (g i j)) s->wpAny (model X.prog X.w) X.A (f (.int i t) (.int j u)) Q E s):
  bH X f (jP λi j=>.bl (g i j)):=by
 intro ae s σ H x y v u Q I a b h;obtain⟨i,j,rfl,rfl,q⟩:=h;obtain⟨t,rfl⟩:=a;obtain⟨c,rfl⟩:=b;exact rule i j t c s _ _ ⟨.bl (g i j),H,I,rfl,q⟩
def vD(i j:Int):Prop:=(-(2 ^ 64)<i/\i<2 ^ 64)\/(-(2 ^ 64)<j/\j<2 ^ 64)
theorem vD.ok{i j:Int}(h:vD i j):IntMulOk i j:=by
 rcases h with⟨h1,h2⟩|⟨h1,h2⟩
 .exact .of_left (intBits_le_64 h1 h2)
 .exact .of_right (intBits_le_64 h1 h2)
theorem Ur:bH X (binaryOp .Add) (jP λi j=>.int (i+j)):=ID λ_ _ _ _ _ _ _ q=>add_int q
theorem UN:bH X (binaryOp .Sub) (jP λi j=>.int (i - j)):=ID λ_ _ _ _ _ _ _ q=>sub_int q
theorem UI:bH X (binaryOp .Mult) (rI vD λi j=>.int (i*j)):=Cd λ_ _ _ _ _ _ _ hc q=>mul_int q hc.ok
theorem UH:bH X (binaryOp .Mod) (rI (λ_ j=>0<j) λi j=>.int (i%j)):=Cd λi j _ _ _ _ _ hc q=>by
 have h1:(0:Int)<j:=hc;exact mod_int' ω (by rw[Int.fmod_eq_emod_of_nonneg i ω];exact q)
theorem YF{f:Value->Sem Value}{g:Int->Int}
  (rule:∀(i:Int) (t:Tok) (s:Shared) (Q:aV) (E:aV),Q (.int (g i) s.toks) {s with toks:=s.toks+1}->wpAny (model X.prog X.w) X.A (f (.int i t)) Q E s):
  z5 X f (rU λi=>.int (g i)):=by
 intro ae s σ H x v Q I a h;obtain⟨i,rfl,q⟩:=h;obtain⟨t,rfl⟩:=a;exact rule i t s _ _ ⟨.int (g i),H,I.tok _,⟨_,rfl⟩,q⟩
theorem YG:z5 X (unaryOp .USub) (rU λi=>.int (-i)):=YF λ_ _ _ _ _ q=>neg_int q
end
noncomputable def KS:V->V->Bool
 |.aD,.aD=>true|.aD,.int _=>true|.int _,.aD=>true|.aD,.bl _=>true|.bl _,.aD=>true|.aD,.str _=>true|.str _,.aD=>true
 |.int _,.int _=>true|.bl _,.bl _=>true|.str _,.str _=>true|.kh _,.kh _=>true
 |.int _,.str _=>true|.str _,.int _=>true|.bl _,.str _=>true|.str _,.bl _=>true
 |_,_=>false
def Co:R2:=λx y H Q=>KS x y=true/\Q (.bl (decide (x=y))) H
def Cr:R2:=λx y H Q=>KS x y=true/\Q (.bl (!decide (x=y))) H
theorem FF{i j:Int}:decide (V.int i=V.int j)=(i==j):=by
 rw[pS];simp
theorem FD{i j:Bool}:decide (V.bl i=V.bl j)=(i==j):=by
 rw[pS];simp
theorem FG{i j:Str}:decide (V.str i=V.str j)=(i==j):=by
 rw[pS];simp
theorem FE{i j:Array UInt8}:decide (V.kh i=V.kh j)=(i.toList==j.toList):=by
 rw[pS];cases i;cases j;simp
section
variable{a b c:Expr}{ta tb tc:TE}{pos:Pos}
theorem dh{ae:aZ}{σ:St}{H:Hp}{s:Shared}{Q:VK}{k a:Bool}(I:Inv X ae σ H s)(q:Q (.bl k) H)(e:k=a):EP X ae σ Q (.bool a) s:=by
 subst e;exact⟨.bl k,H,I,rfl,q⟩
theorem Ux:bH X (compareOp .Eq) Co:=by
 intro ae s σ H x y v u Q I c a h;obtain⟨b,q⟩:=h;cases x with
 |aD=>
  cases c;cases y with
  |aD=>cases a;exact PySem.EqNone.eq_none_none (dh I q θ)
  |bl j=>cases a;exact PySem.EqNone.eq_none_bool (dh I q θ)
  |int j=>obtain⟨d,rfl⟩:=a;exact PySem.EqNone.eq_none_int (dh I q θ)
  |str j=>obtain⟨d,rfl⟩:=a;exact PySem.EqNone.eq_none_str (dh I q θ)
  |_=>exact absurd (show false=true from b) cC
 |bl i=>
  cases c;cases y with
  |aD=>cases a;exact PySem.EqNone.eq_bool_none (dh I q θ)
  |bl j=>cases a;exact eq_bool (dh I q FD)
  |str j=>obtain⟨d,rfl⟩:=a;exact PySem.EqMixed.eq_bool_str (dh I q θ)
  |_=>exact absurd (show false=true from b) cC
 |int i=>
  obtain⟨t,rfl⟩:=c;cases y with
  |aD=>cases a;exact PySem.EqNone.eq_int_none (dh I q θ)
  |int j=>obtain⟨d,rfl⟩:=a;exact eq_int (dh I q FF)
  |str j=>obtain⟨d,rfl⟩:=a;exact PySem.EqMixed.eq_int_str (dh I q θ)
  |_=>exact absurd (show false=true from b) cC
 |str i=>
  obtain⟨t,rfl⟩:=c;cases y with
  |aD=>cases a;exact PySem.EqNone.eq_str_none (dh I q θ)
  |bl j=>cases a;exact PySem.EqMixed.eq_str_bool (dh I q θ)
  |int j=>obtain⟨d,rfl⟩:=a;exact PySem.EqMixed.eq_str_int (dh I q θ)
  |str j=>obtain⟨d,rfl⟩:=a;exact eq_str (dh I q FG)
  |_=>exact absurd (show false=true from b) cC
 |kh i=>
  obtain⟨t,rfl⟩:=c;cases y with
  |kh j=>obtain⟨d,rfl⟩:=a;exact PySem.W.eq_bytes (dh I q FE)
  |_=>exact absurd (show false=true from b) cC
 |_=>cases y<;>exact absurd (show false=true from b) cC
theorem UJ:bH X (compareOp .NotEq) Cr:=by
 intro ae s σ H x y v u Q I c a h;obtain⟨b,q⟩:=h;cases x with
 |aD=>
  cases c;cases y with
  |aD=>cases a;exact PySem.EqNone.ne_none_none (dh I q θ)
  |bl j=>cases a;exact PySem.EqNone.ne_none_bool (dh I q θ)
  |int j=>obtain⟨d,rfl⟩:=a;exact PySem.EqNone.ne_none_int (dh I q θ)
  |str j=>obtain⟨d,rfl⟩:=a;exact PySem.EqNone.ne_none_str (dh I q θ)
  |_=>exact absurd (show false=true from b) cC
 |bl i=>
  cases c;cases y with
  |aD=>cases a;exact PySem.EqNone.ne_bool_none (dh I q θ)
  |bl j=>cases a;exact ne_bool (dh I q (bM not FD))
  |str j=>obtain⟨d,rfl⟩:=a;exact PySem.EqMixed.ne_bool_str (dh I q θ)
  |_=>exact absurd (show false=true from b) cC
 |int i=>
  obtain⟨t,rfl⟩:=c;cases y with
  |aD=>cases a;exact PySem.EqNone.ne_int_none (dh I q θ)
  |int j=>obtain⟨d,rfl⟩:=a;exact ne_int (dh I q (bM not FF))
  |str j=>obtain⟨d,rfl⟩:=a;exact PySem.EqMixed.ne_int_str (dh I q θ)
  |_=>exact absurd (show false=true from b) cC
 |str i=>
  obtain⟨t,rfl⟩:=c;cases y with
  |aD=>cases a;exact PySem.EqNone.ne_str_none (dh I q θ)
  |bl j=>cases a;exact PySem.EqMixed.ne_str_bool (dh I q θ)
  |int j=>obtain⟨d,rfl⟩:=a;exact PySem.EqMixed.ne_str_int (dh I q θ)
  |str j=>obtain⟨d,rfl⟩:=a;exact ne_str (dh I q (bM not FG))
  |_=>exact absurd (show false=true from b) cC
 |kh i=>
  obtain⟨t,rfl⟩:=c;cases y with
  |kh j=>obtain⟨d,rfl⟩:=a;exact PySem.W.ne_bytes (dh I q (bM not FE))
  |_=>exact absurd (show false=true from b) cC
 |_=>cases y<;>exact absurd (show false=true from b) cC
theorem UE:bH X (compareOp .Lt) (jP λi j=>.bl (decide (i<j))):=Cb λ_ _ _ _ _ _ _ q=>lt_int q
theorem UC:bH X (compareOp .LtE) (jP λi j=>.bl (decide (i<=j))):=Cb λ_ _ _ _ _ _ _ q=>le_int q
theorem UA:bH X (compareOp .Gt) (jP λi j=>.bl (decide (j<i))):=Cb λ_ _ _ _ _ _ _ q=>gt_int q
theorem UG:bH X (compareOp .Lt) (λx y H Q=>∃i j,x=.str i/\y=.str j/\Q (.bl (decide (i.cps.toList<j.cps.toList))) H):=by
 intro ae s σ H x y v u Q I a b h;obtain⟨i,j,rfl,rfl,q⟩:=h;obtain⟨t,rfl⟩:=a;obtain⟨c,rfl⟩:=b;exact lt_str (dh I q rfl)
theorem UM:bH X (compareOp .IsNot) (λx y H Q=>y=.aD/\Q (.bl (!decide (x=.aD))) H):=by
 intro ae s σ H x y v u Q I a b h;obtain⟨rfl,q⟩:=h;cases b;refine isnot_none_gen (dh I q ?_);cases x<;>first
  |(cases a;rfl)
  |(obtain⟨t,rfl⟩:=a;rfl)
theorem bH.or{f:Value->Value->Sem Value}{r r':R2}(h:bH X f r)(h':bH X f r'):bH X f (λx y H Q=>r x y H Q\/r' x y H Q):=by
 intro ae s σ H x y v u Q I a b q;rcases q with q|q
 .exact h ae s σ H x y v u Q I a b q
 .exact h' ae s σ H x y v u Q I a b q
theorem o9(b:Expr){op:CmpOp}(h:op≠ .In:=by decide)(h2:op≠ .NotIn:=by decide):behindInMarks op b=false:=by
 have a:(op==CmpOp.In)=false:=by cases op<;>first|rfl|exact absurd rfl h
 have c:(op==CmpOp.NotIn)=false:=by cases op<;>first|rfl|exact absurd rfl h2
 cases b<;>simp[behindInMarks,a,c]
theorem U1{op:CmpOp}{r:R2}(c:bH X (compareOp op) r)(d:PE X a ta)(e:PE X b tb)(f:behindInMarks op b=false):PE X (.Compare a [op] [b] pos) (uW r ta tb):=by
 intro ae s σ H Q I h;exact wpAny_Compare1 (Af d e I h λv u g x y H2 i j k q=>c ae g σ H2 x y v u Q i j k q) f
def CW(t:TE):TT:=λσ H Q=>t σ H λx H'=>∃k,x=.bl k/\Q k H'
theorem VX{op:CmpOp}{r:R2}(d:bH X (compareOp op) r)(f:PE X a ta)(g:PE X b tb)(i:behindInMarks op b=false):PT X (.Compare a [op] [b] pos) (CW (uW r ta tb)):=by
 intro ae s σ H Q I h;refine wpAny_isTrue_Compare1 (aQ (f ae s σ H _ I h) λv j ⟨x,H1,l,m,n⟩=>aQ (g ae j σ H1 _ l n) λu o ⟨y,H2,p,q,t⟩=>
  aQ (d ae o σ H2 x y v u _ p m q t) λc D ⟨z,w,A,B,k,e,C⟩=>?_) i
 subst e;cases B;exact nO ⟨w,A,C⟩
def CT(r r':R2)(ta tb tc:TE):TE:=λσ H Q=>ta σ H λx H1=>tb σ H1 λy H2=>r x y H2 λz H3=>∃k,z=.bl k/\
 (if k=true then tc σ H3 λw' H4=>r' y w' H4 Q else Q (.bl false) H3)
theorem U0{op f:CmpOp}{r r':R2}(n:bH X (compareOp op) r)(g:bH X (compareOp f) r')(o:PE X a ta)(p:PE X b tb)(hc:PE X c tc)
  (q:lastMarks [op,f] [b,c]=false:=by with_unfolding_all rfl):PE X (.Compare a [op,f] [b,c] pos) (CT r r' ta tb tc):=by
 intro ae s σ H Q I h;refine Compare_chain (aQ (o ae s σ H _ I h) λv t ⟨x,H1,w,A,B⟩=>chain_link (aQ (p ae t σ H1 _ w B) λu C ⟨y,H2,D,i,E⟩=>
  aQ (n ae C σ H2 x y v u _ D A i E) λd F ⟨z,j,l,G,k,e,m⟩=>?_)) q
 subst e;cases G;refine nO ?_;cases k with
 |false=>exact ite_ff ⟨.bl false,j,l,rfl,m⟩
 |true=>exact ite_tt (chain_last (aQ (hc ae F σ j _ l m) λJ s4 ⟨K,L,M,N,O⟩=>g ae s4 σ L y K u J Q M i N O))
theorem VW{op f:CmpOp}{r r':R2}(n:bH X (compareOp op) r)(g:bH X (compareOp f) r')(o:PE X a ta)(p:PE X b tb)(hc:PE X c tc)
  (q:lastMarks [op,f] [b,c]=false:=by with_unfolding_all rfl):PT X (.Compare a [op,f] [b,c] pos) (CW (CT r r' ta tb tc)):=by
 intro ae s σ H Q I h;refine isTrue_chain (aQ (o ae s σ H _ I h) λv t ⟨x,H1,w,A,B⟩=>test_link (aQ (p ae t σ H1 _ w B) λu C ⟨y,H2,D,i,E⟩=>
  aQ (n ae C σ H2 x y v u _ D A i E) λd F ⟨z,j,l,G,k,e,m⟩=>?_)) q
 subst e;cases G;refine nO ?_;cases k with
 |false=>
  obtain⟨Y,J,K⟩:=m;cases J;exact ite_ff ⟨j,l,K⟩
 |true=>
  refine ite_tt (test_last (aQ (hc ae F σ j _ l m) λL s4 ⟨M,N,O,P,R⟩=>aQ (g ae s4 σ N y M u L _ O i P R) λd' s5 ⟨Z,S,T,U,k2,V,W⟩=>?_));subst V;cases U;exact nO ⟨S,T,W⟩
theorem Zx{κ:Type}{kvs:List (κ×V)}{vs:List (κ×Value)}(r:KV kvs vs):(!vs.isEmpty)= !kvs.isEmpty:=by
 cases r<;>rfl
theorem Zy{xs:Bn}{a:BM}(r:Vals xs a):(!a.toArray.isEmpty)= !xs.isEmpty:=by
 cases r<;>simp
theorem qR:(sizeLine:Nat)<2 ^ 63:=by rw[kN];decide
theorem Us:bH X (binaryOp .Add) (λx y H Q=>∃i j,x=.str i/\y=.str j/\i.length+j.length<=sizeLine/\Q (.str (i++j)) H):=by
 intro ae s σ H x y v u Q I a b h;obtain⟨i,j,rfl,rfl,d,q⟩:=h;obtain⟨t,rfl⟩:=a;obtain⟨e,rfl⟩:=b;exact add_str (λe c=>⟨.str (i++j),H,I.tok _,⟨_,rfl⟩,q⟩) d
theorem vals1{x:V}{a:BM}(r:Vals [x] a):∃u,a=[u]/\RelV x u:=by
 cases r with
 |cons b c=>cases c;exact⟨_,rfl,b⟩
theorem vals2{x y:V}{a:BM}(r:Vals [x,y] a):∃u b,a=[u,b]/\RelV x u/\RelV y b:=by
 cases r with
 |cons c d=>
  cases d with
  |cons e f=>cases f;exact⟨_,_,rfl,c,e⟩
end
structure zO(h:Heap)(x dx C:Addr)(mA:ay):Prop where
 obj:h.get? x=some (instObj C dx)
 ns:h.Ns1 dx mA
 ne:dx≠x
theorem SY{h:Heap}{dx:Addr}{c:ay}(n:h.Ns1 dx c):∃d,h.get? dx=some d/\∀name,lookIn name d=some (c name):=by
 obtain⟨o,es,ep,f,hd,g,_,i⟩:=n;refine⟨o,f,λname=>?_⟩;have e:=i name;unfold nsFind findBy at e;rw[<-Array.find?_toList] at e;unfold lookIn;rw[hd];dsimp only;split
 .rename_i y q
  rw[q] at e;exact bM some e
 .rename_i q
  rw[q] at e;have a:es.toList.any (·.refKey)=false:=by
   rw[List.any_eq_false];intro y j;obtain⟨z,t,b⟩:=g y (Array.mem_toList_iff.mp j);simp[DictEntry.refKey,b]
  have k:¬es.toList.any (·.refKey)=true:=by rw[a];exact cC
  rw[av k];exact bM some e
theorem zO.look{h:Heap}{x dx C:Addr}{b:ay}(I:zO h x dx C b):∃a,PySem.W.InstAt h x (instObj C dx) C (some a)/\∀name,lookIn name a=some (b name):=
 let ⟨a,c,hl⟩:=SY I.ns
 ⟨a,⟨I.obj,rfl,rfl,c⟩,hl⟩
theorem iJ.some_of{v:V}{o:Option Value}(r:iJ (some v) o):∃u,o=some u/\RelV v u:=by
 cases o with
 |none=>exact(show False from r).elim
 |some u=>exact⟨u,rfl,r⟩
theorem iJ.none_of{o:Option Value}(r:iJ none o):o=none:=by
 cases o with
 |none=>rfl
 |some u=>exact(show False from r).elim
section
variable{P:Program}{w:World}{H H':Hp}{h h':Heap}{a C dx:Addr}{fs fs':List (Str×V)}
theorem RQ(ar:c8 P w H h)(e:H a=some (.ins C dx fs)):∃b,zO h a dx C b/\(∀f,iJ (fs.lookup f) (b f))/\PySem.Within b (fs.map (·.1))/\fs.length<=1000/\H dx=some (.own a):=by
 obtain⟨d,z,ne,c,b,n,r,q⟩:=(show b9 P w H h a (.ins C dx fs) from ar a _ e);exact⟨b,⟨c,n,ne⟩,r,q,z,d⟩
end
structure zD(K:Frag)(C:Addr):Prop where
 pg:plainGet K C Str.empty=true
 hd:PySem.W.hasDictIn K C=true
 po:PySem.W.plainOver K C=true
 sa:findIn K (.ref C) "__setattr__"=some (some (.builtin "object.__setattr__"))
theorem zD.get{K:Frag}{C:Addr}(c:zD K C)(f:Str):plainGet K C f=true:=c.pg
section
variable{ae:aZ}{σ:St}{H:Hp}{s:Shared}{A:Around}{E:aV}{Q:aV}{c:Value}{b:Bool}
inductive jn(K:Frag)(H:Hp):V->Value->Prop where
 |aD:jn K H .aD (.type "NoneType")
 |bl (x:Bool):jn K H (.bl x) (.type "bool")
 |int (i:Int):jn K H (.int i) (.type "int")
 |str (x:Str):jn K H (.str x) (.type "str")
 |qJ (x:UInt64):jn K H (.qJ x) (.type "float")
 |lst {a:Addr} {xs:Bn} (e:H a=some (.lst xs)):jn K H (.ref a) (.type "list")
 |bW {a:Addr} {o:Obj} {xs:Bn} (e:H a=some (.bW o (.lst xs))):jn K H (.ref a) (.type "list")
 |tup {a:Addr} {xs:Bn} (e:H a=some (.tup xs)):jn K H (.ref a) (.type "tuple")
 |dK {a:Addr} {kvs:List (Key×V)} (e:H a=some (.dK kvs)):jn K H (.ref a) (.type "dict")
 |dT {a:Addr} {kvs:List (Ee×V)} (e:H a=some (.dT kvs)):jn K H (.ref a) (.type "dict")
 |ins {a C dx:Addr} {fs:List (Str×V)} (e:H a=some (.ins C dx fs)) (cl:zD K C) (ha:findIn K (.ref C) "__class__"=some (some (.builtin "object.__class__")))
  (hn:specialIn K (.builtin "object.__class__") "__get__"=some (some (.builtin "getset_descriptor.__get__"))) (htk:takesIn K (.builtin "object.__class__")=some true)
  (hm:mroIn K C (.type "object")=some true):jn K H (.ref a) (.ref C)
theorem R0{x:V}{u t:Value}(I:Inv X ae σ H s)(d:RelV x u)(ty:jn X.K H x t)(e:kitOne X.K t c=some b)(h:∀j,Q (.bool b) {s with toks:=j}):
  wpAny (model X.prog X.w) A (call (.builtin "isinstance") [u,c]) Q E s:=by
 cases ty with
 |aD=>cases (show u=Value.none from d);exact jg PySem.W.kitx_none I.fD True.intro e (λz=>nomatch z) h
 |bl y=>cases (show u=Value.bool y from d);exact jg PySem.W.kitx_bool I.fD True.intro e (λz=>nomatch z) h
 |int i=>obtain⟨t,q⟩:=(show ∃t,u=Value.int i t from d);cases q;exact jg PySem.W.kitx_int I.fD True.intro e (λz=>nomatch z) h
 |str y=>obtain⟨t,q⟩:=(show ∃t,u=Value.str y t from d);cases q;exact jg PySem.W.kitx_str I.fD True.intro e (λz=>nomatch z) h
 |qJ y=>obtain⟨t,q⟩:=(show ∃t,u=Value.float y t from d);cases q;exact jg PySem.W.kitx_float I.fD True.intro e (λz=>nomatch z) h
 | @lst a xs f=>
  cases (show u=Value.ref a from d);obtain⟨_,_,n,_,h1⟩:=(show b9 X.prog X.w H s.heap a (.lst xs) from I.ar a _ f);exact jg kitx_list I.fD ⟨_,h1,rfl⟩ e (λz=>nomatch z) h
 | @bW a k xs f=>
  cases (show u=Value.ref a from d);obtain⟨_,_,_,n,_,h1⟩:=(show b9 X.prog X.w H s.heap a (.bW k (.lst xs)) from I.ar a _ f);exact jg kitx_list I.fD ⟨_,h1,rfl⟩ e (λz=>nomatch z) h
 | @tup a xs f=>
  cases (show u=Value.ref a from d);obtain⟨_,_,_,p⟩:=(show b9 X.prog X.w H s.heap a (.tup xs) from I.ar a _ f);obtain⟨o,h1,h2,_⟩:=p.is;exact jg kitx_tuple I.fD ⟨o,h1,h2⟩ e (λz=>nomatch z) h
 | @dK a kvs f=>
  cases (show u=Value.ref a from d);obtain⟨_,_,vs,_,p⟩:=(show b9 X.prog X.w H s.heap a (.dK kvs) from I.ar a _ f);obtain⟨o,es,ep,h1,h2,_⟩:=p;exact jg kitx_dict I.fD ⟨o,h1,h2.1⟩ e (λz=>nomatch z) h
 | @dT a kvs f=>
  cases (show u=Value.ref a from d);obtain⟨_,_,xs,_,o,es,ep,h1,h2,_⟩:=(show b9 X.prog X.w H s.heap a (.dT kvs) from I.ar a _ f);exact jg kitx_dict I.fD ⟨o,h1,h2.1⟩ e (λz=>nomatch z) h
 | @ins a C dx fs f cl l m g r=>
  cases (show u=Value.ref a from d);obtain⟨v,O,_⟩:=RQ I.ar f;obtain⟨B,J,_⟩:=O.look;exact jg (PySem.W.kitx_own (cl.get _) cl.hd l m g r) I.fD J e (λz=>nomatch z) h
end
structure eL(k:Nat)(A:Around):Prop where
 hd:A.handled=none
 dp:A.depth+3*k+5<recursionLimit
 un:A.units+16*k+200<cLine
theorem eL.mono{j k:Nat}{A:Around}(r:eL k A)(h:j<=k):eL j A:=⟨r.hd,by have:=r.dp;omega,by have:=r.un;omega⟩
theorem eL.deeper{k:Nat}{A:Around}(r:eL (k+1) A)(env:Env):eL k (A.deeper env):=
 ⟨r.hd,by have:=r.dp;show A.depth+1+3*k+5<_;omega,by have:=r.un;show A.units+3+16*k+200<_;omega⟩
theorem eL.depth{k:Nat}{A:Around}(r:eL k A):A.depth<recursionLimit:=by have:=r.dp;omega
theorem eL.units{k:Nat}{A:Around}(r:eL k A):A.units+64<cLine:=by have:=r.un;omega
def X3:TA:=λ_ H Q=>Q [] H
def XR(ta:TE)(tr:TA):TA:=λσ H Q=>ta σ H λx H1=>tr σ H1 λxs H2=>Q (x::xs) H2
section
variable{e:Expr}{es:DD}{te:TE}{t:TA}{pos:Pos}
theorem yu:PA X [] X3:=λ_ _ _ _ H Q I h=>vf ⟨[],H,I,.nil,h⟩
theorem pC(a:PE X e te)(b:PA X es t)(c:starEach (e::es) X.env=(false,eval e X.env)::starEach es X.env:=by rfl):PA X (e::es) (XR te t):=by
 intro pos ae s σ H Q I h;rw[c];show wpAny _ _ (spliced ((false,eval e X.env)::backTo pos (starEach es X.env))) _ _ s;refine vd (aQ (a ae s σ H _ I h) λu d ⟨x,H1,f,g,i⟩=>?_);exact aQ (b pos ae d σ H1 _ f i) λm n ⟨xs,H2,j,k,l⟩=>⟨x::xs,H2,j,.cons g k,l⟩
def Ye(t:TA):TE:=λσ H Q=>t σ H λxs H1=>xs.length<=sizeLine/\∀p,H1 p=none->Q (.ref p) (ax H1 p (.tup xs))
def XZ(t:TA):TE:=λσ H Q=>t σ H λxs H1=>xs.length<=sizeLine/\∀p,H1 p=none->Q (.ref p) (ax H1 p (.lst xs))
theorem Ve{d}(h:PA X es t):PE X (.Tuple es d pos) (Ye t):=by
 intro ae s σ H Q I f;refine wpAny_Tuple_spliced (aQ (h pos ae s σ H _ I f) λg a ⟨xs,H1,c,r,z,q⟩=>⟨by rw[<-r.length];exact z,?_⟩);have i:H1 a.heap.objs.size=none:=c.ar.fresh (aJ _);refine⟨.ref a.heap.objs.size,ax H1 a.heap.objs.size (.tup xs),c.laid (t':=a.toks) (λb u e=>bu _ e) (aJ _) ?_,rfl,q _ i⟩;exact⟨z,g,r,⟨_,cS _ rfl⟩⟩
theorem U9(h:PA X es t):PE X (.List es pos) (XZ t):=by
 intro ae s σ H Q I d;refine wpAny_List_spliced (aQ (h pos ae s σ H _ I d) λf a ⟨xs,H1,c,r,z,q⟩=>⟨by rw[<-r.length];exact z,?_⟩);have g:H1 a.heap.objs.size=none:=c.ar.fresh (aJ _);refine⟨.ref a.heap.objs.size,ax H1 a.heap.objs.size (.lst xs),c.laid (t':=a.toks) (λb u e=>bu _ e) (aJ _) ?_,rfl,q _ g⟩;exact⟨z,f,0,r,cS _ rfl⟩
end
abbrev Sp:=Bn->Hp->VK->XK->Prop
abbrev jk:=Fh->Hp->Shared->XK->aV
structure ql(P:Program)(w:World)(K:Frag)(mg:ay)(base:Heap)(A:Around)(outer:Fh)(s:Shared)(H:Hp):Prop where
 frames:A.frames=some outer
 mod:Mod K mg base
 bs:∀b o,base.get? b=some o->s.heap.get? b=some o/\H b=none
 kg:base.objs.size<=s.heap.objs.size
 i_:s.heap.FunFrames base outer
 ly:∀b∈frs outer,H b=none
 ar:c8 P w H s.heap
 bare:AllBare s.gens
def CE(outer:Fh)(P:Program)(w:World)(H:Hp)(s:Shared)(Q:VK)(u:Value)(s':Shared):Prop:=
 ∃v H',s'.os=s.os/\AllBare s'.gens/\Un (frs outer) [] H H' s.heap s'.heap/\c8 P w H' s'.heap/\RelV v u/\Q v H'
def CR(CX:jk)(outer:Fh)(P:Program)(w:World)(H:Hp)(s:Shared)(Q:VK)(E:XK)(r:Result)(s':Shared):Prop:=
 match r with
 |.ok (.ret u)=>CE outer P w H s Q u s'
 |.ok _=>False
 |.error e=>CX outer H s E e s'
structure gx(P:Program)(w:World)(K:Frag)(mg:ay)(base:Heap)(CX:jk)(k:Nat)(f:Addr)(fd:FuncData)(ps:Ap)(sp:Sp):Prop where
 len:∀vs H Q E,sp vs H Q E->vs.length=ps.length
 run:∀(A:Around) (outer:Fh) (s:Shared) (H:Hp) (args:Args) (us:BM) (vs:Bn) (Q:VK) (E:XK),eL k A->ql P w K mg base A outer s H->BindsTo s fd args (ps.zip us)->Vals vs us->sp vs H Q E->
  codeAny (model P w) A (.call (.ref f) args) (CR CX outer P w H s Q E) s
theorem gx.mono{P:Program}{w:World}{K:Frag}{mg:ay}{base:Heap}{CX:jk}{j k:Nat}{f:Addr}{fd:FuncData}{ps:Ap}{sp:Sp}(F:gx P w K mg base CX j f fd ps sp)(h:j<=k):
 gx P w K mg base CX k f fd ps sp:=⟨F.len,λA outer s H args a vs Q E b=>F.run A outer s H args a vs Q E (b.mono h)⟩
theorem gx.imp{P:Program}{w:World}{K:Frag}{mg:ay}{base:Heap}{CX:jk}{k:Nat}{f:Addr}{fd:FuncData}{ps:Ap}{sp a:Sp}(F:gx P w K mg base CX k f fd ps sp)
  (h:∀vs H Q E,a vs H Q E->sp vs H Q E):gx P w K mg base CX k f fd ps a:=
 ⟨λvs H Q E q=>F.len vs H Q E (h _ _ _ _ q),λA outer s H args b vs Q E c d e g i=>F.run A outer s H args b vs Q E c d e g (h _ _ _ _ i)⟩
section
variable{ae:aZ}{σ:St}{H:Hp}{s s':Shared}
theorem Inv.F9(I:Inv X ae σ H s):ql X.prog X.w X.K X.mg X.base X.A X.stack s H:=
 ⟨I.ok.frames,I.ok.mod,I.bs,d7 I.ok.kg I.sz,I.stack,I.CL,I.ar,I.bare⟩
theorem Inv.after{Q:VK}{u:Value}(I:Inv X ae σ H s)(h:CE X.stack X.prog X.w H s Q u s'):EP X ae σ Q u s':=by
 obtain⟨v,H',os,bare,un,ar,r,q⟩:=h;obtain⟨c,g,d,t,a⟩:=s';obtain rfl:a=s.os:=os;exact⟨v,H',I.call (h':=c) (g':=g) (d':=d) (t':=t) (ch:=[]) un ar bare (λb z=>absurd z θ),r,q⟩
end
def CS(sp:Sp)(m_:Bn)(E:XK)(t:TA):TE:=λσ H Q=>t σ H λvs H1=>sp (vs++m_) H1 Q E
def Binds(K:Frag)(fd:FuncData)(ps:Ap)(ds:BM):Prop:=
 ∀(s:Shared) (us:BM),K.In s.heap->(us++ds).length=ps.length->BindsTo s fd ⟨us,[]⟩ (ps.zip (us++ds))
theorem Binds.all{K:Frag}{fd:FuncData}{ps:Ap}(h:∀a:BM,a.length=ps.length->bindArgs fd ⟨a,[]⟩=pure (ps.zip a)):Binds K fd ps []:=λs a _ hl=>by
 rw[lN] at hl ⊢;exact .of_eq (h a hl)
def Passes(CX:jk)(X:Cx)(E:XK):Prop:=∀(ae:aZ) (σ:St) (H:Hp) (s:Shared) (e:Value) (s':Shared),Inv X ae σ H s->CX X.stack H s E e s'->X.xe e s'
section
variable{CX:jk}{k:Nat}{f C:Addr}{fd:FuncData}{ps:Ap}{sp:Sp}{m_:Bn}{ds:BM}{E:XK}{x m:Str}{p pos apos:Pos}{e o:Expr}{es:DD}{ta:TE}{t:TA}
theorem Wo{ae:aZ}{σ:St}{H:Hp}{s:Shared}{Q:VK}{a:BM}{vs:Bn}(F:gx X.prog X.w X.K X.mg X.base CX k f fd ps sp)(d:eL k X.A)(g:Binds X.K fd ps ds)(hd:Vals m_ ds)(i:Passes CX X E)
  (I:Inv X ae σ H s)(r:Vals vs a)(h:sp (vs++m_) H Q E):wpAny (model X.prog X.w) X.A (call (.ref f) a) (EP X ae σ Q) X.xe s:=by
 have c:Vals (vs++m_) (a++ds):=r.append hd;have hl:(a++ds).length=ps.length:=by rw[<-c.length];exact F.len _ _ _ _ h
 refine wpAny_call (qe (F.run X.A X.stack s H ⟨a,[]⟩ (a++ds) (vs++m_) Q E d I.F9 (g s a I.fD hl) c h) λr s' b=>?_);cases r with
 |error e=>exact i ae σ H s e s' I b
 |ok fl=>
  cases fl with
  |ret u=>exact I.after b
  |next=>exact False.elim b
  |brk=>exact False.elim b
  |cont=>exact False.elim b
theorem UW(F:gx X.prog X.w X.K X.mg X.base CX k f fd ps sp)(d:eL k X.A)(g:Gl X x)(i:X.mg x=some (.ref f))(j:keepIn X.K (.ref f)=true)(l:Binds X.K fd ps ds)(hd:Vals m_ ds)(m:Passes CX X E)
  (n:PA X (e::es) t)(a:(x==("__debug__":Str))=false:=by decide)(o:starEach (e::es) X.env=(false,eval e X.env)::starEach es X.env:=by rfl)(b:(backTo pos (starEach es X.env)).any (·.1)=false:=by rfl):
  PE X (.Call (.Name x p) (e::es) [] pos) (CS sp m_ E t):=by
 intro ae s σ H Q I h;refine kO (uf I g i ?_ a);refine callWith_K (h₀:=X.base) I.ok.mod.qQ j (aQ (n pos ae s σ H _ I h) λu v ⟨vs,H1,c,r,q⟩=>⟨c.fD,?_⟩) o b;exact Wo F d l hd m c r q
end
structure bB(N P:Ap)(sc:Scope):Prop where
 kind:sc.kind= .function
 co:sc.isCoroutine=false
 gen:sc.isGenerator=false
 nd:N.Nodup
 pre:N.take P.length=P
 par:∀x∈P,sc.names.lookup x=some .local\/sc.names.lookup x=some .cell
 B8:∀y∈sc.names,y.2≠ .free
theorem EW{kindOf:Str->Option NameKind}{x:Str}:∀{binds:List (Str×Value)} {m:ay},(∀v,(x,v)∉binds)->bindL kindOf binds m x=m x
 |[],_,_=>rfl
 |(n,v)::r,m,h=>by
  unfold bindL;rw[EW λw a=>h w (bq _ a)];split
  .have:x≠n:=by rintro rfl;exact h v bw
   simp[this]
  .rfl
theorem EU{kindOf:Str->Option NameKind}{x:Str}:∀{binds:List (Str×Value)} {m:ay},(∀v,(x,v)∉binds)->bindC kindOf binds m x=m x
 |[],_,_=>rfl
 |(n,v)::r,m,h=>by
  unfold bindC;rw[EU λw a=>h w (bq _ a)];split
  .rfl
  .have:x≠n:=by rintro rfl;exact h v bw
   simp[this]
theorem EV{kindOf:Str->Option NameKind}{x:Str}{v:Value}:∀{P:Ap} {vs:BM} {i:Nat} {m:ay},P.Nodup->P[i]?=some x->vs[i]?=some v->kindOf x=some .local->
  bindL kindOf (P.zip vs) m x=some v
 |[],_,_,_,_,h,_,_=>by simp at h
 |_::_,[],_,_,_,_,h,_=>by simp at h
 |p::P,w::vs,0,m,nd,h1,h2,a=>by
  simp at h1 h2;subst h1;subst h2;show bindL kindOf ((p,w)::P.zip vs) m p=_;unfold bindL;rw[EW λv b=>(kJ.mp nd).1 (of_mem_zip b).1,aB a];simp
 |p::P,w::vs,i+1,m,nd,h1,h2,a=>by
  show bindL kindOf ((p,w)::P.zip vs) m x=_;unfold bindL;exact EV (i:=i) (kJ.mp nd).2 (by simpa using h1) (by simpa using h2) a
theorem ET{kindOf:Str->Option NameKind}{x:Str}{v:Value}:∀{P:Ap} {vs:BM} {i:Nat} {m:ay},P.Nodup->P[i]?=some x->vs[i]?=some v->kindOf x≠some .local->
  bindC kindOf (P.zip vs) m x=some v
 |[],_,_,_,_,h,_,_=>by simp at h
 |_::_,[],_,_,_,_,h,_=>by simp at h
 |p::P,w::vs,0,m,nd,h1,h2,a=>by
  simp at h1 h2;subst h1;subst h2;show bindC kindOf ((p,w)::P.zip vs) m p=_;unfold bindC;rw[EU λv b=>(kJ.mp nd).1 (of_mem_zip b).1,av a];simp
 |p::P,w::vs,i+1,m,nd,h1,h2,a=>by
  show bindC kindOf ((p,w)::P.zip vs) m x=_;unfold bindC;exact ET (i:=i) (kJ.mp nd).2 (by simpa using h1) (by simpa using h2) a
def start(N:Ap)(vs:Bn):St:=vs.map some++replicate (N.length - vs.length) none
noncomputable def cU(CX:jk)(P:Program)(w:World)(K:Frag)(mg:ay)(base:Heap)(N:Ap)(qual:Str)(scope:Scope)(f:Addr)(cd:Value)(A:Around)(outer:Fh)(s:Shared)(H:Hp)(E:XK):Cx where
 prog:=P
 w:=w
 K:=K
 mg:=mg
 base:=base
 A:=A.deeper (envOfC qual scope s.heap.objs.size f cd)
 N:=N
 s₀:=s
 H₀:=H
 env:=envOfC qual scope s.heap.objs.size f cd
 outer:=outer
 stack:=envOfC qual scope s.heap.objs.size f cd::outer
 ex:=[]
 calm:=true
 fn:=λ_=>true
 pn:=[]
 xe:=λe s'=>wpAny (model P w) (A.deeper (envOfC qual scope s.heap.objs.size f cd)) (leaving (envOfC qual scope s.heap.objs.size f cd) e) (λ_ s''=>CX outer H s E e s'') (λe' s''=>CX outer H s E e' s'') s'
theorem E3{sc:Scope}{n:Nat}{x:Str}(h:sc.names.lookup x=some .cell):∃c,(cellsFrom n sc.names []).lookup x=some c:=by
 have q:=cellsFrom_some sc.names n [] (.inl h);exact pQ.mp q
theorem Hu{CX:jk}{P:Program}{w:World}{K:Frag}{mg:ay}{base:Heap}{N ps:Ap}{qual:Str}{scope:Scope}{f:Addr}{cd:Value}{A:Around}{outer:Fh}{s o:Shared}{H:Hp}{E:XK}{m:BM}{vs:Bn}
  (S:bB N ps scope)(hd:A.handled=none)(d:ql P w K mg base A outer s H)(hl:vs.length=ps.length)(r:Vals vs m)
  (x:InCallC s s.heap.objs.size (bindL (envOfC qual scope s.heap.objs.size f cd).kindOf (ps.zip m) λ_=>none) (cellsFrom (s.heap.objs.size+1) scope.names []) (bindC (envOfC qual scope s.heap.objs.size f cd).kindOf (ps.zip m) λ_=>none) o):
  Inv (cU CX P w K mg base N qual scope f cd A outer s H E) [] (start N vs) H o:=by
 have C:ps.length<=N.length:=by have:=bM List.length S.pre;rw[pT] at this;omega
 obtain⟨h1,G,rfl,t⟩:=x.done
 have g:∀b:Addr,b∉(cU CX P w K mg base N qual scope f cd A outer s H E).ex:=λb z=>absurd (show b∈([]:D1) from z) θ
 refine⟨⟨d.mod,S.kind,rfl,rfl,aJ _,λy z c h1 h2=> ?_,λy hy=> ?_,λy c _ h=> ?_,λ_=>hd,Around.frames_deeper d.frames,.inr ⟨rfl,rfl⟩,λb z=>absurd z (g b),d.bs,d.kg,λb _ _=>g b,λb z=>absurd z (g b),d.i_,d.ly⟩,
  rfl,d.bare,Un.kept t,⟨_,x.toInCall.ns,λi y v h1 h2 I=> ?_⟩,λy c h=>⟨_,x.cell y c h⟩,d.ar.fresh (aJ _),λy c h=> ?_,λp j=>absurd (show p∈([]:aZ) from j) θ,d.ar.kept t,?_⟩
 .exact name_of_addr x.apart (qa h1) (qa h2)
 .have hy:scope.names.lookup y=some .cell\/scope.names.lookup y=some .free:=hy
  rcases hy with hy|hy
  .exact E3 hy
  .exact absurd rfl (S.B8 _ (qa hy))
 .exact gK (x.above y c (qa h))
 .have hi:i<vs.length:=by
   unfold start at h2
   by_cases hi:i<vs.length
   .exact hi
   .rw[sf (by simpa using hi)] at h2
    rw[zx] at h2
    split at h2<;>cases h2
  have D:vs[i]? =some v:=by
   unfold start at h2
   rw[iG (by simpa using hi),bz] at h2
   cases e:vs[i]? with
   |none=>rw[e] at h2;cases h2
   |some a=>rw[e] at h2;cases h2;rfl
  obtain⟨u,B,F⟩:=r.get D
  have j:ps[i]? =some y:=by
   rw[<-S.pre,List.getElem?_take_of_lt ω];exact h1
  have l:ps.Nodup:=by rw[<-S.pre];exact S.nd.sublist (List.take_sublist _ _)
  refine⟨u,F,?_⟩
  rcases S.par y (cF j) with k|k
  .exact .inl ⟨k,EV l j B k⟩
  .obtain⟨c,e⟩:=E3 (n:=s.heap.objs.size+1) k
   refine .inr ⟨.inl k,c,e,?_⟩
   have q:=x.cell y c e
   rw[ET l j B (by show scope.names.lookup y≠_;rw[k];decide)] at q
   exact q
 .exact d.ar.fresh (gK (x.above y c (qa h)))
 .unfold start
  show _=N.length
  rw[eE,aM,List.length_replicate]
  omega
theorem Gw{CX:jk}{P:Program}{w:World}{K:Frag}{mg:ay}{base:Heap}{k:Nat}{f:Addr}{name qual:Str}{params:Arguments}{body:FK}{scope:Scope}{z kV doc pm a ct D:Value}{an F:Option Addr}
  {j:Array (Option Value)}{N ps:Ap}{sp:Sp}(lk:K.lookup f=some ⟨D,F,.func (fnOf name qual params body scope z kV doc pm an a ct),j⟩)(l:codeIn K a qual=true)(S:bB N ps scope)
  (len:∀vs H Q E,sp vs H Q E->vs.length=ps.length)
  (c:∀(A:Around) (outer:Fh) (s:Shared) (H:Hp) (vs:Bn) (Q:VK) (E:XK),eL k (A.deeper (envOfC qual scope s.heap.objs.size f a))->sp vs H Q E->
   ∃t,dF (cU CX P w K mg base N qual scope f a A outer s H E) body t/\t {nx:=λ_ H'=>Q .aD H',rt:=Q} (start N vs) H):
  gx P w K mg base CX (k+1) f (fnOf name qual params body scope z kV doc pm an a ct) ps sp:=by
 refine⟨len,λA outer s H args G vs Q E m h L r i=> ?_⟩
 have hl:=len _ _ _ _ i
 have B:K.In s.heap:=h.mod.qQ.keeps λb o e=>(h.bs b o e).1
 have lim:s.heap.NoLimit:=h.mod.nolimit.keeps λb o e=>(h.bs b o e).1
 have d:∀y∈ps.zip G,scope.names.lookup y.1=some .local\/(scope.names.lookup y.1=some .cell/\((cellsFrom (s.heap.objs.size+1) scope.names []).lookup y.1).isSome=true):=λ⟨n,v⟩ M=>by
  rcases S.par n (of_mem_zip M).1 with q|q
  .exact .inl q
  .exact .inr ⟨q,cellsFrom_some _ _ _ (.inl q)⟩
 refine codeAny_call_function m.depth (B _ _ lk) rfl S.co S.gen rfl (codeRec_of B l) (L _ _ _ _ ?_)
 refine wpAny_newFunctionEnv_cells S.kind d λenv O C x=> ?_
 subst O
 refine⟨lim.keeps x.toInCall.keep,codeAny_func ?_⟩
 obtain⟨t,R,T⟩:=c A outer s H vs Q E (m.deeper _) i
 have I:Inv (cU CX P w K mg base N qual scope f a A outer s H E) [] (start N vs) H C:=Hu S m.hd h hl r x
 refine jA (R [] C (start N vs) H _ I T) (λfl s' g=> ?_) λe s' g=>g
 have fin:∀{σ':St} {H':Hp} {v:V} {u:Value},Inv (cU CX P w K mg base N qual scope f a A outer s H E) [] σ' H' s'->RelV v u->Q v H'->CE outer P w H s Q u s':=
  λ {σ' H' v u} J p q=>⟨v,H',J.os,J.bare,J.base,J.ar,p,q⟩
 cases fl with
 |ret u=>
  obtain⟨v,σ',H',J,p,q⟩:=g
  exact fin J p q
 |next=>
  obtain⟨σ',H',J,q⟩:=g
  exact fin (v:=V.aD) (u:=Value.none) J rfl q
 |brk=>
  obtain⟨_,_,_,q⟩:=g
  exact False.elim q
 |cont=>
  obtain⟨_,_,_,q⟩:=g
  exact False.elim q
section
variable{x:Str}{p pos:Pos}{e:Expr}{es:DD}{t:TA}{id T:String}{r:Bn->Hp->VK->Prop}
def CQ(r:Bn->Hp->VK->Prop)(t:TA):TE:=λσ H Q=>t σ H λvs H1=>r vs H1 Q
theorem yw(hc:fy X (.builtin id) r)(c:Gl X x)(d:X.mg x=none)(f:bootBuiltins x=some (.builtin id))(g:PA X (e::es) t)(i:x≠"__name__":=by decide)(a:(x==("__debug__":Str))=false:=by decide)
  (j:starEach (e::es) X.env=(false,eval e X.env)::starEach es X.env:=by rfl)(b:(backTo pos (starEach es X.env)).any (·.1)=false:=by rfl):PE X (.Call (.Name x p) (e::es) [] pos) (CQ r t):=by
 intro ae s σ H Q I h;refine kO (jr I c d f ?_ i a);exact De (aQ (g pos ae s σ H _ I h) λk l ⟨vs,H1,m,n,o⟩=>hc ae l σ H1 vs k Q m n o) j b
theorem UY(hc:fy X (.type T) r)(c:Gl X x)(d:X.mg x=none)(f:bootBuiltins x=some (.type T))(g:PA X (e::es) t)(i:x≠"__name__":=by decide)(a:(x==("__debug__":Str))=false:=by decide)
  (j:starEach (e::es) X.env=(false,eval e X.env)::starEach es X.env:=by rfl)(b:(backTo pos (starEach es X.env)).any (·.1)=false:=by rfl):PE X (.Call (.Name x p) (e::es) [] pos) (CQ r t):=by
 intro ae s σ H Q I h;refine kO (jr I c d f ?_ i a);exact mK (aQ (g pos ae s σ H _ I h) λk l ⟨vs,H1,m,n,o⟩=>hc ae l σ H1 vs k Q m n o) j b
end
end L2
end
namespace HT
open PySem PyProof.Rows
section
variable{prog:Program}{w:World}{A:Around}{E:aV}{s:Shared}
theorem Nd{t b:Addr}{vs ws:BM}{Q:aV}(l:IsTup s.heap t vs.toArray)(m:IsTup s.heap b ws.toArray)(i:vs≠[])
  (h1:ws=[]->Q (.ref t) s)(h2:ws≠[]->Q (.ref s.heap.objs.size) {s with heap:=s.heap.push {cls:= .type "tuple",data:= .seq (vs++ws).toArray}})
  (o:vs.length+ws.length<=sizeLine):wpAny (model prog w) A (binaryOp .Add (.ref t) (.ref b)) Q E s:=by
 obtain⟨⟨cls,p,data,j⟩,g,hc,n,hd⟩:=id l
 obtain⟨⟨k,c,data2,d⟩,a,f,n2,hd2⟩:=id m
 simp only at hc hd f hd2
 subst hc hd f hd2
 have e:vs.toArray++ws.toArray=(vs++ws).toArray:=θ
 by_cases h:ws=[]
 .exact concat_meets ⟨_,g,rfl⟩ ⟨_,a,rfl⟩ noFill_tuple_add seq_tuple_add slot_tuple_add entry_tuple_add (args_tuple_add_2 _ _)
   (tuple_addW1 t b vs.toArray ws.toArray n n2 p c j d (by simpa using i) (by simp[h])) ⟨g,a,h1 h⟩
 .refine concat_meets ⟨_,g,rfl⟩ ⟨_,a,rfl⟩ noFill_tuple_add seq_tuple_add slot_tuple_add entry_tuple_add (args_tuple_add_2 _ _)
   (tuple_addW2 t b vs.toArray ws.toArray n n2 p c j d (by simpa using i) (by simpa using h) (by rw[cE,cE];exact o)) ⟨g,a,?_⟩
  rw[e]
  exact h2 h
def jf(n d:Nat):Option Int->Nat
 |none=>d
 |some v=>if v<0 then (v+(n:Int)).toNat else min v.toNat n
end
end HT
section
open PySem PySem.Spec PyProof.Rows
namespace L2
variable{X:Cx}
section
variable{e:Expr}{te:TE}{lo hi:Option Expr}{tl th:TO}{pos p2:Pos}
def V5(K:Frag):R2:=λx y H Q=>∃a b xs ys,x=.ref a/\y=.ref b/\bV K H a xs/\bV K H b ys/\xs≠[]/\xs.length+ys.length<=sizeLine/\
 (ys=[]->Q (.ref a) H)/\(ys≠[]->∀p,H p=none->Q (.ref p) (ax H p (.tup (xs++ys))))
theorem Vals.B6{xs:Bn}{a:BM}(r:Vals xs a):a=[]↔xs=[]:=by
 cases r with
 |nil=>simp
 |cons _ _=>simp
theorem Uv:bH X (binaryOp .Add) (V5 X.K):=by
 intro ae s σ H x y v u Q I f g h;obtain⟨a,b,xs,ys,rfl,rfl,i,j,k,r,l,m⟩:=h;cases f;cases g;obtain⟨t,d,n,_⟩:=I.tuple i;obtain⟨e,c,p2,_⟩:=I.tuple j;refine HT.Nd n p2 (λz=>k (d.B6.mp z)) (λz=>⟨.ref a,H,I,rfl,l (c.B6.mp z)⟩) (λz=>?_) (by rw[<-d.length,<-c.length];exact r);refine⟨.ref s.heap.objs.size,_,I.laid (t':=s.toks) (o:=.tup (xs++ys)) (λb p q=>bu _ q) (aJ _) ?_,rfl,m (λw=>z (c.B6.mpr w)) _ (I.ar.fresh (aJ _))⟩;exact⟨by rw[eE];exact r,_,d.append c,oh.new _ _⟩
end
def jq(n:Nat)(i:Int):Option Nat:=if 0<=i then (if i<n then some i.toNat else none) else if -(n:Int)<=i then some (i+n).toNat else none
def d9{α:Type}(xs:List α)(i:Int):Option α:=(jq xs.length i).bind λj=>xs[j]?
theorem Hy{n:Nat}{i:Int}{j:Nat}(h:jq n i=some j):seqIndex? i n=some j/\j<n/\-(n:Int)<=i/\i<n:=by
 unfold jq at h;by_cases h0:0<=i
 .rw[aB h0] at h
  by_cases h1:i<n
  .rw[aB h1] at h
   have e:i.toNat=j:=Option.some.inj h;exact⟨by rw[seqIndex_of h0 h1,e],ω,ω,h1⟩
  .rw[av h1] at h;cases h
 .rw[av h0] at h
  by_cases h1: -(n:Int)<=i
  .rw[aB h1] at h
   have e:(i+n).toNat=j:=Option.some.inj h;exact⟨by rw[seqIndex_neg ω h1,e],ω,h1,ω⟩
  .rw[av h1] at h;cases h
theorem Ad{α:Type}{xs:List α}{i:Int}{v:α}(h:d9 xs i=some v):∃j,seqIndex? i xs.length=some j/\xs[j]?=some v/\j<xs.length/\-(xs.length:Int)<=i/\i<xs.length:=by
 unfold d9 at h;cases e:jq xs.length i with
 |none=>rw[e] at h;cases h
 |some j=>
  rw[e] at h;obtain⟨h1,h2,a,b⟩:=Hy e;exact⟨j,h1,h,h2,a,b⟩
theorem oj{α:Type}{xs:List α}{j:Nat}{v:α}(h:xs[j]?=some v):d9 xs (j:Int)=some v:=by
 have a:j<xs.length:=(bK.mp h).1;have e:jq xs.length (j:Int)=some j:=by
  unfold jq;rw[aB ω,aB ω];simp
 unfold d9;rw[e];exact h
def zQ(b:Expr):Prop:=∀o i,subscripted b false o i=operate [o,i] (getItem o i)
def j7(X:Cx)(r:R2):Prop:=
 ∀(value slice:Expr) (ae:aZ) (s:Shared) (σ:St) (H:Hp) (x y:V) (v u:Value) (Q:VK),Inv X ae σ H s->RelV x v->RelV y u->r x y H Q->
  subscripted slice false v u=operate [v,u] (getItem v u)->wpAny (model X.prog X.w) X.A (subscriptTail value slice v u) (EP X ae σ Q) X.xe s
def zN(X:Cx)(id:String)(r:V->Bn->Hp->VK->Prop):Prop:=
 ∀(ae:aZ) (s:Shared) (σ:St) (H:Hp) (x:V) (xs:Bn) (v:Value) (us:BM) (Q:VK),Inv X ae σ H s->RelV x v->Vals xs us->r x xs H Q->
  wpAny (model X.prog X.w) X.A (call (.builtin id) (v::us)) (EP X ae σ Q) X.xe s
section
variable{a b:Expr}{ta tb:TE}{pos:Pos}
theorem j7.or{r r':R2}(h:j7 X r)(h':j7 X r'):j7 X (λx y H Q=>r x y H Q\/r' x y H Q):=by
 intro value slice ae s σ H x y v u Q I a b q c;rcases q with q|q
 .exact h value slice ae s σ H x y v u Q I a b q c
 .exact h' value slice ae s σ H x y v u Q I a b q c
theorem U6{r:R2}(c:j7 X r)(d:PE X a ta)(e:PE X b tb)(f:zQ b):PE X (.Subscript a b pos) (uW r ta tb):=by
 intro ae s σ H Q I h;exact Subscript_ (Af d e I h λv u g x y H2 i j k q=>c a b ae g σ H2 x y v u Q i j k q (f _ _))
def Jq(K:Frag):R2:=λx y H Q=>∃p xs i v,x=.ref p/\y=.int i/\bf K H p xs/\d9 xs i=some v/\Q v H
def Js(K:Frag):R2:=λx y H Q=>∃p xs i v,x=.ref p/\y=.int i/\bV K H p xs/\d9 xs i=some v/\Q v H
def Jr:R2:=λx y H Q=>∃z i c,x=.str z/\y=.int i/\z.length<=sizeLine/\d9 z.cps.toList i=some c/\Q (.str ⟨#[c]⟩) H
theorem R6:j7 X (Jq X.K):=by
 intro value slice ae s σ H x y v u Q I e f h c;obtain⟨p,xs,i,z,rfl,rfl,g,k,q⟩:=h;cases e;obtain⟨t,rfl⟩:=f;obtain⟨A,r,pl,B⟩:=I.list g;obtain⟨j,h1,h2,n,l,m⟩:=Ad k;obtain⟨w,d,a⟩:=r.get h2;have hl:=r.length;have o:=qR;have fin:EP X ae σ Q w s:=⟨z,H,I,a,q⟩;by_cases h0:0<=i
 .have b:i.toNat=j:=by
   rw[seqIndex_of h0 m] at h1;exact Option.some.inj h1
  exact item_listR pl.isList h0 ω (by rw[b];simpa using d) fin c
 .have b:(i+(A.toArray.size:Int)).toNat=j:=by
   rw[seqIndex_neg ω l] at h1;rw[cE,<-hl];exact Option.some.inj h1
  exact subscriptTail_builtinR (x:=w) pl.isList.typeIs slot_list_getitem.lookup
   (wpAny_getItem_list_neg (Q:=λr s'=>r=w/\EP X ae σ Q r s') pl.isList ω (by rw[cE]<;>omega) ω (by rw[b];simpa using d) ⟨rfl,fin⟩) c
theorem R9:j7 X (Js X.K):=by
 intro value slice ae s σ H x y v u Q I b c h d;obtain⟨p,xs,i,z,rfl,rfl,e,f,q⟩:=h;cases b;obtain⟨t,rfl⟩:=c;obtain⟨o,r,pl,A⟩:=I.tuple e;obtain⟨j,h1,h2,k,l,m⟩:=Ad f;obtain⟨w,g,a⟩:=r.get h2;have hl:=r.length;have n:=qR;have fin:EP X ae σ Q w s:=⟨z,H,I,a,q⟩;exact subscriptTail_builtinR (x:=w) pl.typeIs slot_tuple_getitem.lookup
  (getItem_tuple (j:=j) (Q:=λr s'=>r=w/\EP X ae σ Q r s') pl ω ω (by rw[cE,<-hl];exact h1) (by simpa using g) ⟨rfl,fin⟩) d
theorem R8:j7 X Jr:=by
 intro value slice ae s σ H x y v u Q I a b h d;obtain⟨z,i,c,rfl,rfl,o,e,q⟩:=h;obtain⟨t,rfl⟩:=a;obtain⟨p,rfl⟩:=b;obtain⟨j,h1,h2,m,f,g⟩:=Ad e;have hl:z.cps.toList.length=z.length:=by simp[Str.length]
 rw[hl] at h1 f g;have n:=qR;exact tail_any (typeIs_str s z t) slot_str_getitem.lookup (getItem_str (c:=c) (by
  have k:decide (i< -(2 ^ 63:Int))=false:=d8 ω;have l:decide (i≥2 ^ 63)=false:=d8 ω;rw[k,l,Bool.or_false]) (by rw[h1];simpa using h2) ⟨.str ⟨#[c]⟩,H,I.tok _,⟨_,rfl⟩,q⟩) d
def Jm(K:Frag):R2:=λx y H Q=>Jq K x y H Q\/Js K x y H Q\/Jr x y H Q
theorem R7:j7 X (Jm X.K):=R6.or (R9.or R8)
theorem Tp(a:BM)(n j:Nat)(u:Value):Obj.mapSeq (·.setIfInBounds j u) {cls:=.type "list",data:=.seq a.toArray n}={cls:=.type "list",data:=.seq (a.set j u).toArray n}:=by
 simp[Obj.mapSeq]
theorem Inv.lst{ae:aZ}{σ:St}{H:Hp}{s:Shared}{p:Addr}{xs:Bn}(I:Inv X ae σ H s)(h:H p=some (.lst xs)):
  ∃(its:BM) (n:Nat),Vals xs its/\s.heap.get? p=some {cls:=.type "list",data:=.seq its.toArray n}/\xs.length<=sizeLine:=by
 obtain⟨z,its,n,r,e⟩:=I.ar p _ h;exact⟨its,n,r,e,z⟩
theorem Inv.S2{ae:aZ}{σ:St}{H:Hp}{s:Shared}{p:Addr}{xs ys:Bn}{i g:BM}{n n':Nat}{f:Obj->Obj}(I:Inv X ae σ H s)(h:H p=some (.lst xs))
  (c:s.heap.get? p=some {cls:=.type "list",data:=.seq i.toArray n})(a:f {cls:=.type "list",data:=.seq i.toArray n}={cls:=.type "list",data:=.seq g.toArray n'})(r:Vals ys g)(j:ys.length<=sizeLine)(t:Nat):
  Inv X ae σ (ax H p (.lst ys)) {s with heap:=s.heap.update p f,toks:=t}:=by
 have e:(s.heap.update p f).get? p=some {cls:=.type "list",data:=.seq g.toArray n'}:=by
  rw[j6 f c (by rw[a]<;>rfl),a]
 refine I.write (x:=p) (e:=p) (by rw[h];trivial) (.inl rfl) (λb u d q=>(nW _ _ (Ne.symm d)).trans q) ⟨_,e⟩ ?_;exact⟨j,g,n',r,e⟩
def V7:V->V->V->Hp->(Hp->Prop)->Prop:=λo i v H Q=>∃p xs k j,o=.ref p/\i=.int k/\H p=some (.lst xs)/\jq xs.length k=some j/\Q (ax H p (.lst (xs.set j v)))
theorem set_list:DV X V7:=by
 intro ae s σ H o i v x y u Q I g l m h;obtain⟨p,xs,k,j,rfl,rfl,c,w,q⟩:=h;cases g;obtain⟨t,rfl⟩:=l;obtain⟨A,n,r,a,B⟩:=I.lst c;obtain⟨h1,h2,d,e⟩:=Hy w;have hl:=r.length;have z:=qR;have f:Inv X ae σ (ax H p (.lst (xs.set j v))) {s with heap:=s.heap.update p (Obj.mapSeq (·.setIfInBounds j u))}:=
  I.S2 c a (Tp A n j u) (r.set m j) (by rw[length_set];exact B) s.toks
 by_cases h0:0<=k
 .have b:k.toNat=j:=by
   rw[seqIndex_of h0 e] at h1;exact Option.some.inj h1
  exact PySem.W.ki_setAt a h0 ω (by rw[cE,<-hl];exact e) (by rw[b];exact⟨_,f,q⟩)
 .have b:(k+(A.toArray.size:Int)).toNat=j:=by
   rw[seqIndex_neg ω d] at h1;rw[cE,<-hl];exact Option.some.inj h1
  exact PySem.W.ki_setBack a ω (by rw[cE,<-hl];exact d) ω (by rw[b];exact⟨_,f,q⟩)
theorem Xp(lo hi:Option Int)(n:Nat):(sliceBounds lo hi none n).1=((HT.jf n 0 lo:Nat):Int)/\(sliceBounds lo hi none n).2.1=((HT.jf n n hi:Nat):Int)/\(sliceBounds lo hi none n).2.2=1:=by
 refine⟨?_,?_,rfl⟩
 .cases lo with
  |none=>simp[sliceBounds,HT.jf]
  |some i=>
   simp only[sliceBounds,HT.jf,getD_none,(δ:(1:Int)>0),nF];by_cases h:i<0
   .simp only[h,nF]<;>omega
   .simp only[h,gS]<;>omega
 .cases hi with
  |none=>simp[sliceBounds,HT.jf]
  |some i=>
   simp only[sliceBounds,HT.jf,getD_none,(δ:(1:Int)>0),nF];by_cases h:i<0
   .simp only[h,nF]<;>omega
   .simp only[h,gS]<;>omega
theorem Z1(b:BM)(lo hi:Option Int):slicePick b.toArray lo hi none=((b.drop (HT.jf b.length 0 lo)).take (HT.jf b.length b.length hi - HT.jf b.length 0 lo)).toArray:=by
 obtain⟨h1,h2,a⟩:=Xp lo hi b.toArray.size;unfold slicePick;rw[h1,h2,a];simp only[sliceRange_one,pick_run,cE]<;>rfl
noncomputable def k_:V->Bool
 |.aD=>true
 |.bl _=>true
 |.int _=>true
 |.str _=>true
 |_=>false
noncomputable def jJ:V->V->Bool
 |.aD,.aD=>true
 |.bl a,.bl b=>a==b
 |.bl a,.int b=>(if a then 1 else 0)==b
 |.int a,.bl b=>a==(if b then 1 else 0)
 |.int a,.int b=>a==b
 |.str a,.str b=>a==b
 |_,_=>false
theorem O0{A:Around}{s:Shared}{y x:V}{u v:Value}(d:RelV y u)(c:RelV x v)(f:k_ y=true)(e:k_ x=true):SeqAt.EqAt A s u v (jJ y x):=by
 cases y with
 |aD=>
  cases d;cases x with
  |aD=>cases c;exact SeqAt.EqAt.same _
  |bl b=>cases c;exact SeqAt.EqAt.none_bool b
  |int b=>obtain⟨t,rfl⟩:=c;exact SeqAt.EqAt.none_int b t
  |str b=>obtain⟨t,rfl⟩:=c;exact SeqAt.EqAt.none_str b t
  |_=>exact absurd (show false=true from e) cC
 |bl a=>
  cases d;cases x with
  |aD=>cases c;exact SeqAt.EqAt.bool_none a
  |bl b=>cases c;exact SeqAt.EqAt.bool_bool a b
  |int b=>obtain⟨t,rfl⟩:=c;exact SeqAt.EqAt.bool_int a b t
  |str b=>obtain⟨t,rfl⟩:=c;exact SeqAt.EqAt.bool_str a b t
  |_=>exact absurd (show false=true from e) cC
 |int a=>
  obtain⟨g,rfl⟩:=d;cases x with
  |aD=>cases c;exact SeqAt.EqAt.int_none a g
  |bl b=>cases c;exact SeqAt.EqAt.int_bool a g b
  |int b=>obtain⟨t,rfl⟩:=c;exact SeqAt.EqAt.int_int a g b t
  |str b=>obtain⟨t,rfl⟩:=c;exact SeqAt.EqAt.int_str a g b t
  |_=>exact absurd (show false=true from e) cC
 |str a=>
  obtain⟨g,rfl⟩:=d;cases x with
  |aD=>cases c;exact SeqAt.EqAt.str_none a g
  |bl b=>cases c;exact SeqAt.EqAt.str_bool a g b
  |int b=>obtain⟨t,rfl⟩:=c;exact SeqAt.EqAt.str_int a g b t
  |str b=>obtain⟨t,rfl⟩:=c;exact SeqAt.EqAt.str_str a g b t
  |_=>exact absurd (show false=true from e) cC
 |_=>exact absurd (show false=true from f) cC
noncomputable def iM(x:V)(u:Value):Bool:=match u with
 |.none=>jJ .aD x
 |.bool b=>jJ (.bl b) x
 |.int i _=>jJ (.int i) x
 |.str z _=>jJ (.str z) x
 |_=>false
theorem F_{x y:V}{u:Value}(r:RelV y u)(f:k_ y=true):iM x u=jJ y x:=by
 cases y with
 |aD=>cases r;rfl
 |bl b=>cases r;rfl
 |int i=>obtain⟨t,rfl⟩:=r;rfl
 |str z=>obtain⟨t,rfl⟩:=r;rfl
 |_=>exact absurd (show false=true from f) cC
theorem sI{x:V}:∀{xs:Bn} {a:BM},Vals xs a->xs.all k_=true->a.any (iM x)=xs.any λy=>jJ y x
 |_,_,.nil,_=>rfl
 |y::xs,u::a,.cons r t,f=>by
  rw[List.all_cons,fX] at f;rw[qc,qc,F_ r f.1,sI t f.2]
theorem uo{A:Around}{s:Shared}{x:V}{v:Value}(b:RelV x v)(c:k_ x=true):∀{xs:Bn} {a:BM},Vals xs a->xs.all k_=true->∀u∈a,SeqAt.EqAt A s u v (iM x u)
 |_,_,.nil,_=>λu hu=>by cases hu
 |y::xs,u::a,.cons r t,f=>λd hu=>by
  rw[List.all_cons,fX] at f;rcases bx.mp hu with rfl|hu
  .rw[F_ r f.1];exact O0 r b f.1 c
  .exact uo b c t f.2 d hu
def w_(x:V)(xs:Bn):Bool:=xs.any λy=>jJ y x
def Cq(K:Frag)(neg:Bool):R2:=λx y H Q=>∃p xs,y=.ref p/\(bf K H p xs\/bV K H p xs)/\k_ x=true/\xs.all k_=true/\Q (.bl (if neg then !w_ x xs else w_ x xs)) H
theorem UB:bH X (compareOp .In) (Cq X.K false):=by
 intro ae s σ H x y v u Q I b d h;obtain⟨p,xs,rfl,hq,c,fs,q⟩:=h;cases d;rcases hq with hq|hq
 .obtain⟨e,r,pl,f⟩:=I.list hq
  refine SeqAt.in_listAt (iM x) pl.isList (λw a=>uo b c r fs w (by simpa using a)) ⟨.bl _,H,I,rfl,?_⟩;rw[(θ:e.toArray.any (iM x)=e.any (iM x)),sI r fs];exact q
 .obtain⟨e,r,pl,f⟩:=I.tuple hq
  refine SeqAt.in_tupleAt (iM x) pl (λw a=>uo b c r fs w (by simpa using a)) ⟨.bl _,H,I,rfl,?_⟩;rw[(θ:e.toArray.any (iM x)=e.any (iM x)),sI r fs];exact q
theorem UL:bH X (compareOp .NotIn) (Cq X.K true):=by
 intro ae s σ H x y v u Q I b d h;obtain⟨p,xs,rfl,hq,c,fs,q⟩:=h;cases d;rcases hq with hq|hq
 .obtain⟨e,r,pl,f⟩:=I.list hq
  refine SeqAt.notIn_listAt (iM x) pl.isList (λw a=>uo b c r fs w (by simpa using a)) ⟨.bl _,H,I,rfl,?_⟩;rw[(θ:e.toArray.any (iM x)=e.any (iM x)),sI r fs];exact q
 .obtain⟨e,r,pl,f⟩:=I.tuple hq
  refine SeqAt.notIn_tupleAt (iM x) pl (λw a=>uo b c r fs w (by simpa using a)) ⟨.bl _,H,I,rfl,?_⟩;rw[(θ:e.toArray.any (iM x)=e.any (iM x)),sI r fs];exact q
theorem M3:fy X (.builtin "len") (λxs H Q=>∃p ys,xs=[.ref p]/\(bf X.K H p ys\/bV X.K H p ys)/\Q (.int ys.length) H):=by
 intro ae s σ H xs c Q I r h;obtain⟨p,ys,rfl,hq,q⟩:=h;obtain⟨u,rfl,b⟩:=vals1 r;cases b;have d:=qR;rcases hq with hq|hq
 .obtain⟨e,r',pl,f⟩:=I.list hq
  have a:=r'.length;exact Calls.call_len_list pl.isList (by simp only[cE]<;>omega) ⟨.int ys.length,H,I.tok _,⟨s.toks+1,by rw[cE,a]⟩,q⟩
 .obtain⟨e,r',pl,f⟩:=I.tuple hq
  have a:=r'.length;exact len_tuple pl (by simp only[cE]<;>omega) ⟨.int ys.length,H,I.tok _,⟨s.toks+1,by rw[cE,a]⟩,q⟩
theorem M4:fy X (.builtin "len") (λxs H Q=>∃z,xs=[.str z]/\z.length<=sizeLine/\Q (.int z.length) H):=by
 intro ae s σ H xs a Q I r h;obtain⟨z,rfl,c,q⟩:=h;obtain⟨u,rfl,t,rfl⟩:=vals1 r;have b:=qR;exact len_str ω ⟨.int z.length,H,I.tok _,⟨_,rfl⟩,q⟩
theorem fy.or{f:Value}{r r':Bn->Hp->VK->Prop}(h:fy X f r)(h':fy X f r'):fy X f (λxs H Q=>r xs H Q\/r' xs H Q):=by
 intro ae s σ H xs a Q I rs q;rcases q with q|q
 .exact h ae s σ H xs a Q I rs q
 .exact h' ae s σ H xs a Q I rs q
theorem M5:fy X (.type "list") (λxs H Q=>∃p ys,xs=[.ref p]/\(bf X.K H p ys\/bV X.K H p ys)/\∀l,H l=none->Q (.ref l) (ax H l (.lst ys))):=by
 intro ae s σ H xs f Q I r h;obtain⟨p,ys,rfl,hq,q⟩:=h;obtain⟨u,rfl,d⟩:=vals1 r;cases d;have fin:∀(g:BM),Vals ys g->ys.length<=sizeLine->∀(h':Heap) (i:Nat),(∀b o',s.heap.get? b=some o'->h'.get? b=some o')->
   h'.get? s.heap.objs.size=some {cls:=.type "list",dict:=none,data:=.seq g.toArray i,slots:= #[]}->EP X ae σ Q (.ref s.heap.objs.size) {s with heap:=h'}:=λg r' j h' i kp e=>
  ⟨.ref s.heap.objs.size,_,I.laid (t':=s.toks) kp (aJ _) (show b9 X.prog X.w _ h' _ (.lst ys) from⟨j,g,i,r',e⟩),rfl,q _ (I.ar.fresh (aJ _))⟩
 rcases hq with hq|hq
 .obtain⟨g,r',pl,j⟩:=I.list hq
  have a:=r'.length;obtain⟨o,c,hc,n,hd⟩:=pl.isList;exact call_list_seq p (.inl rfl) c hc hd (λh' i kp e=>fin g r' j h' i kp e) (by simp only[cE]<;>omega)
 .obtain⟨g,r',pl,j⟩:=I.tuple hq
  have a:=r'.length;obtain⟨o,c,hc,n,hd⟩:=pl;exact call_list_seq p (.inr rfl) c hc hd (λh' i kp e=>fin g r' j h' i kp e) (by simp only[cE]<;>omega)
theorem sO:fy X (.type "tuple") (λxs H Q=>∃p ys,xs=[.ref p]/\((bf X.K H p ys/\∀l,H l=none->Q (.ref l) (ax H l (.tup ys)))\/(bV X.K H p ys/\Q (.ref p) H))):=by
 intro ae s σ H xs i Q I r h;obtain⟨p,ys,rfl,h⟩:=h;obtain⟨u,rfl,f⟩:=vals1 r;cases f;rcases h with⟨a,q⟩|⟨a,q⟩
 .obtain⟨j,r',pl,k⟩:=I.list a
  have c:=r'.length;refine call_tuple_list pl.isList (λh' kp=>?_) (by simp only[cE]<;>omega);have d:Inv X ae σ H {s with heap:=h'}:=I.kept (t':=s.toks) kp;have g:Inv X ae σ (ax H h'.objs.size (.tup ys)) {s with heap:=h'.push {cls:=.type "tuple",data:=.seq j.toArray}}:=
   d.laid (t':=s.toks) (λb o e=>bu _ e) (aJ _) (show b9 X.prog X.w _ _ _ (.tup ys) from⟨k,j,r',oh.new _ _⟩)
  exact⟨.ref h'.objs.size,_,g,rfl,q _ (d.ar.fresh (aJ _))⟩
 .obtain⟨j,r',pl,k⟩:=I.tuple a
  exact call_tuple_same pl ⟨.ref p,H,I,rfl,q⟩
def C4(K:Frag)(T:String)(x:V)(H:Hp):Prop:=match x with
 |.str _=>T="str"
 |.int _=>T="int"
 |.ref p=>(T="list"/\∃xs,bf K H p xs)\/(T="tuple"/\∃o,K.lookup p=some o/\o.cls=.type "tuple"/\o.dict=none)\/
  (T="dict"/\((∃kvs,H p=some (.dK kvs))\/∃kvs,H p=some (.dT kvs)))\/(T="set"/\∃S n,H p=some (.set S n))
 |_=>False
theorem YD{ae:aZ}{σ:St}{H:Hp}{s:Shared}{T:String}{x:V}{v:Value}(I:Inv X ae σ H s)(r:RelV x v)(ty:C4 X.K T x H):
  s.TypeIs v T/\∀a,v=.ref a->∃f,s.heap.get? a=some f/\f.dict=none:=by
 cases x with
 |str z=>
  obtain⟨t,rfl⟩:=r;cases (show T="str" from ty);exact⟨typeIs_str s z t,λ_ e=>nomatch e⟩
 |int i=>
  obtain⟨t,rfl⟩:=r;cases (show T="int" from ty);exact⟨typeIs_int s i t,λ_ e=>nomatch e⟩
 |ref p=>
  cases r;rcases ty with⟨rfl,xs,g⟩|⟨rfl,o,b,hc,hd⟩|⟨rfl,b⟩|⟨rfl,S,n,b⟩
  .obtain⟨h,_,pl,_⟩:=I.list g
   refine⟨pl.isList.typeIs,λa e=>?_⟩;cases e;obtain⟨o,n,e,c,hd,_⟩:=pl;exact⟨o,e,hd⟩
  .refine⟨⟨o,I.fD p o b,hc⟩,λa e=>?_⟩
   cases e;exact⟨o,I.fD _ o b,hd⟩
  .have z:∃o,s.heap.get? p=some o/\o.ExactDict:=by
    rcases b with⟨kvs,b⟩|⟨kvs,b⟩
    .obtain⟨_,_,_,_,o,_,_,e,ex,_⟩:=I.ar p _ b
     exact⟨o,e,ex⟩
    .obtain⟨_,_,_,_,o,_,_,e,ex,_⟩:=I.ar p _ b
     exact⟨o,e,ex⟩
   obtain⟨o,e,ex⟩:=z;refine⟨⟨o,e,ex.1⟩,λa d=>?_⟩;cases d;exact⟨o,e,ex.2.1⟩
  .obtain⟨o,_,_,_,e,ex,_⟩:=I.ar p _ b
   refine⟨⟨o,e,ex.1⟩,λa d=>?_⟩;cases d;exact⟨o,e,ex.2.1⟩
 |_=>exact False.elim ty
def XQ(K:Frag)(T:String)(r:V->Bn->Hp->VK->Prop)(to:TE)(t:TA):TE:=λσ H Q=>to σ H λx H1=>C4 K T x H1/\t σ H1 λxs H2=>r x xs H2 Q
variable{o e:Expr}{es:DD}{to:TE}{t:TA}{name:Str}{apos cpos:Pos}{T id:String}{r:V->Bn->Hp->VK->Prop}
theorem IL(k:PlainAttrs T)(slot:Slot T name id)(f:typeOf (.builtin id)=pure (.type "method_descriptor"))(l:zN X id r)(m:PE X o to)(n:PA X (e::es) t)
  (b:attributeBase o name X.env (eval o X.env)=eval o X.env:=by rfl)
  (d:((backTo cpos (starEach (e::es) X.env)).all (λx=> !x.1)&&(backToKw cpos (keywordEach [] X.env)).all (λx=>x.1.isSome)
   &&decide ((e::es).length+([]:FR).length+(if ([]:FR).isEmpty then 0 else 1)<30))=true:=by rfl)
  (c:(apos.endLine==cpos.line)=true:=by rfl)(p:starEach (e::es) X.env=(false,eval e X.env)::starEach es X.env:=by rfl)(a:(backTo cpos (starEach es X.env)).any (·.1)=false:=by rfl):
  PE X (.Call (.Attribute o name apos) (e::es) [] cpos) (XQ X.K T r to t):=by
 intro ae s σ H Q I h
 refine wpAny_Call_method_late b d c rfl (aQ (m ae s σ H _ I h) λv q ⟨x,H1,g,i,ty,u⟩=> ?_)
 obtain⟨h1,h2⟩:=YD g i ty
 refine⟨T,id,k,slot,f,h1,h2,?_⟩
 have j:=n cpos ae q σ H1 _ g u
 rw[p] at j ⊢
 refine Calls.callWith_builtin (by show(false||(backTo cpos (starEach es X.env)).any (·.1))=false;rw[a]<;>rfl) (Calls.evalArgs_plain ?_)
 exact aQ j λw y ⟨vs,H2,z,A,B⟩=>l ae y σ H2 x vs v w Q z i A B
end
def lY(X:Cx)(id:String)(r:V->Bn->Hp->VK->Prop):Prop:=
 ∀(ae:aZ) (s:Shared) (σ:St) (H:Hp) (x:V) (xs:Bn) (v:Value) (us:BM) (Q:VK),Inv X ae σ H s->RelV x v->Vals xs us->r x xs H Q->
  wpAny (model X.prog X.w) X.A (call (.builtin id) (v::us)) (EP X ae σ Q) X.xe s
theorem Vals.one:∀{x:V} {a:BM},Vals [x] a->∃u,a=[u]/\RelV x u
 |_,_,.cons r .nil=>⟨_,rfl,r⟩
theorem Vals.two:∀{x y:V} {a:BM},Vals [x,y] a->∃u v,a=[u,v]/\RelV x u/\RelV y v
 |_,_,_,.cons r (.cons q .nil)=>⟨_,_,rfl,r,q⟩
theorem Vals.eraseIdx:∀{xs:Bn} {a:BM} (i:Nat),Vals xs a->Vals (xs.eraseIdx i) (a.eraseIdx i)
 |_,_,_,.nil=>.nil
 |_,_,0,.cons _ t=>t
 |_,_,i+1,.cons r t=>.cons r (Vals.eraseIdx i t)
theorem HP{α:Type}:∀(l:List α) (i:Nat),(l.eraseIdx i).length<=l.length
 |[],_=>aJ _
 |_::_,0=>nG _
 |_::r,i+1=>Nat.succ_le_succ (HP r i)
section
variable{ae:aZ}{σ:St}{H:Hp}{s:Shared}{l b:Addr}{xs ys zs:Bn}
theorem Inv.xB{i its':BM}{n:Nat}{f:Array Value->Array Value}{j:Nat}(I:Inv X ae σ H s)(a:H l=some (.lst xs))
  (e:s.heap.get? l=some {cls:=.type "list",data:=.seq i.toArray n})(b:f i.toArray=its'.toArray)(c:Vals ys its')(k:ys.length<=sizeLine):
  Inv X ae σ (ax H l (.lst ys)) {s with heap:=s.heap.update l (Obj.mapSeq f),toks:=j}:=by
 have q:=PySem.IsL.update e f;rw[b] at q;refine I.write (x:=l) (e:=l) (by rw[a];exact trivial) (.inl rfl) (λh u d g=>(nW s.heap (Obj.mapSeq f) (Ne.symm d)).trans g) ⟨_,q⟩ ?_;exact⟨k,its',_,c,q⟩
theorem Inv.HW{its:BM}{t':Nat}(I:Inv X ae σ H s)(a:Vals ys its)(b:ys.length<=sizeLine):
  Inv X ae σ (ax H s.heap.objs.size (.lst ys)) {s with heap:=s.heap.push {cls:=.type "list",data:=.seq its.toArray},toks:=t'}:=
 I.laid (λ_ _ q=>bu _ q) (aJ _) ⟨b,its,0,a,cS _ rfl⟩
theorem Inv.fresh(I:Inv X ae σ H s):H s.heap.objs.size=none:=I.ar.fresh (aJ _)
theorem Inv.lD(I:Inv X ae σ H s)(a:H l=some (.lst xs)):xs.length<=sizeLine/\∃(b:BM) (n:Nat),Vals xs b/\xs.length=b.length/\s.heap.get? l=some {cls:=.type "list",data:=.seq b.toArray n}:=by
 obtain⟨z,b,n,r,e⟩:=I.ar l _ a;exact⟨z,b,n,r,r.length,e⟩
theorem Iv{n:Nat}(h:n<=sizeLine):Builtin.List.listTooLong n=false:=by
 unfold Builtin.List.listTooLong;exact d8 ω
end
def Jd:V->Bn->Hp->VK->Prop:=λx vs H Q=>∃l xs y,x=.ref l/\vs=[y]/\H l=some (.lst xs)/\xs.length<sizeLine/\Q .aD (ax H l (.lst (xs++[y])))
theorem oY:lY X "list.append" Jd:=by
 intro ae s σ H x vs v f Q I b c h;obtain⟨l,xs,y,rfl,rfl,a,i,q⟩:=h;cases b;obtain⟨u,rfl,d⟩:=c.one;obtain⟨z,g,n,r,hl,e⟩:=I.lD a;refine mT F.slot_list_append ⟨_,e,rfl⟩ F.entry_list_append (F.args_list_append_2 _ _) (PySem.list_append l g.toArray n u (by rw[cE];omega)) ⟨e,?_⟩;refine⟨.aD,_,I.xB (its':=g++[u]) a e θ (r.append (.cons d .nil)) ?_,rfl,q⟩;rw[eE,List.length_singleton];omega
def Ji:V->Bn->Hp->VK->Prop:=λx vs H Q=>∃l b xs zs,x=.ref l/\vs=[.ref b]/\H l=some (.lst xs)/\H b=some (.lst zs)/\xs.length+zs.length<=sizeLine/\Q .aD (ax H l (.lst (xs++zs)))
theorem uq:lY X "list.extend" Ji:=by
 intro ae s σ H x vs v p Q I f g h;obtain⟨l,b,xs,zs,rfl,rfl,d,i,A,q⟩:=h;cases f;obtain⟨u,rfl,j⟩:=g.one;cases j;obtain⟨z,w,n,r,hl,e⟩:=I.lD d;obtain⟨t,a,n2,k,m,o⟩:=I.lD i;have y:w.toArray.size+a.toArray.size<=sizeLine:=by rw[cE,cE];omega
 have c:¬(!w.toArray.isEmpty&&Builtin.List.listTooLong (w.toArray.size+a.toArray.size))=true:=by
  rw[Iv y,y_];exact cC
 refine mT F.slot_list_extend ⟨_,e,rfl⟩ F.entry_list_extend (F.args_list_extend_2 _ _)
  (AutoSeq1.list_extend_list_list_0 l w.toArray n b a.toArray n2 c (by rw[cE];omega) ω) ⟨e,o,?_⟩
 refine⟨.aD,_,I.xB (its':=w++a) d e θ (r.append k) ?_,rfl,q⟩;rw[eE];omega
def Jv:V->Bn->Hp->VK->Prop:=λx vs H Q=>∃l xs i k y,x=.ref l/\vs=[.int i]/\H l=some (.lst xs)/\-(2 ^ 63)<=i/\i<2 ^ 63/\seqIndex? i xs.length=some k/\xs[k]?=some y/\Q y (ax H l (.lst (xs.eraseIdx k)))
theorem TU:lY X "list.pop" Jv:=by
 intro ae s σ H x vs v o Q I c d h;obtain⟨l,xs,i,k,y,rfl,rfl,b,h1,h2,f,g,q⟩:=h;cases c;obtain⟨u,rfl,j⟩:=d.one;obtain⟨t,rfl⟩:=j;obtain⟨z,p,n,r,hl,e⟩:=I.lD b;obtain⟨w,m,a⟩:=r.get g;refine mT F.slot_list_pop ⟨_,e,rfl⟩ F.entry_list_pop (F.args_list_pop_2 _ _)
  (MeetsSeq.list_pop_at l p.toArray n i t k w (fitsIndex_both h1 h2) (by rw[cE,<-hl];exact f) (by rw[<-nY];exact m) (by rw[cE];omega)) ⟨e,?_⟩
 refine⟨y,_,I.xB (its':=p.eraseIdx k) b e ?_ (r.eraseIdx k) ?_,a,q⟩
 .show p.toArray.eraseIdxIfInBounds k=(p.eraseIdx k).toArray
  rw[List.eraseIdxIfInBounds_toArray]
 .have:=HP xs k
  omega
def Je:R2:=λx y H Q=>∃l b xs zs,x=.ref l/\y=.ref b/\H l=some (.lst xs)/\H b=some (.lst zs)/\xs.length+zs.length<=sizeLine/\∀p,H p=none->Q (.ref p) (ax H p (.lst (xs++zs)))
theorem Ut:bH X (binaryOp .Add) Je:=by
 intro ae s σ H x y v u Q I c d h;obtain⟨l,b,xs,zs,rfl,rfl,f,g,t,q⟩:=h;cases c;cases d;obtain⟨z,p,n,r,hl,e⟩:=I.lD f;obtain⟨o,a,n2,i,j,k⟩:=I.lD g;refine PySem.P.add_list e k ?_ (by rw[cE,cE];omega);have m:p.toArray++a.toArray=(p++a).toArray:=θ
 rw[m];exact⟨.ref _,_,I.HW (t':=s.toks) (r.append i) (by rw[eE];omega),rfl,q _ I.fresh⟩
section
variable{κ:Type}[DecidableEq κ]
noncomputable def fF(kvs:List (κ×V))(k:κ):Option V:=(kvs.find? λkv=>decide (kv.1=k)).map (·.2)
noncomputable def putK(kvs:List (κ×V))(k:κ)(v:V):List (κ×V):=
 if (kvs.any λkv=>decide (kv.1=k))=true then kvs.map (λkv=>if kv.1=k then (kv.1,v) else kv) else kvs++[(k,v)]
theorem C8{p:κ×V}{r:List (κ×V)}{k:κ}(e:p.1=k):fF (p::r) k=some p.2:=by simp[fF,lQ,e]
theorem C7{p:κ×V}{r:List (κ×V)}{k:κ}(e:¬p.1=k):fF (p::r) k=fF r k:=by simp[fF,lQ,e]
theorem LC(k:κ):∀kvs:List (κ×V),(kvs.any λa=>decide (a.1=k))=(fF kvs k).isSome
 |[]=>rfl
 |p::r=>by
  rw[qc];by_cases e:p.1=k
  .simp only[C8 e,dg e,Bool.true_or,Option.isSome_some]
  .rw[C7 e,d8 e,Bool.false_or];exact LC k r
theorem BO(kvs:List (κ×V))(k:κ)(v:V):(putK kvs k v).length<=kvs.length+1:=by
 unfold putK;split
 .rw[aM];omega
 .rw[eE,iA,length_nil];omega
theorem iJ.t9{o:Option V}{u:Option Value}(r:iJ o u):o.isSome=u.isSome:=by
 cases o with
 |none=>cases u with
  |none=>rfl
  |some _=>exact(show False from r).elim
 |some _=>cases u with
  |none=>exact(show False from r).elim
  |some _=>rfl
theorem KV.val{kvs:List (κ×V)}{vs:List (κ×Value)}(r:KV kvs vs)(k:κ):iJ (fF kvs k) (valueAt vs k):=by
 unfold KV at r;induction r with
 |nil=>exact True.intro
 | @cons p q ps d h t c=>
  obtain⟨h1,h2⟩:=h;by_cases e:p.1=k
  .have a:q.1=k:=h1.symm.trans e
   have b:valueAt (q::d) k=some q.2:=by simp[valueAt,lQ,a]
   rw[C8 e,b];exact h2
  .have a:¬q.1=k:=λz=>e (h1.trans z)
   have b:valueAt (q::d) k=valueAt d k:=by simp[valueAt,lQ,a]
   rw[C7 e,b];exact c
theorem KV.any{kvs:List (κ×V)}{vs:List (κ×Value)}(r:KV kvs vs)(k:κ):(kvs.any λa=>decide (a.1=k))=vs.any λa=>decide (a.1=k):=by
 unfold KV at r;induction r with
 |nil=>rfl
 |cons h t b=>rw[qc,qc,b,h.1]
theorem KV.repl{kvs:List (κ×V)}{vs:List (κ×Value)}(r:KV kvs vs)(k:κ){y:V}{u:Value}(b:RelV y u):
  KV (kvs.map λa=>if a.1=k then (a.1,y) else a) (vs.map λa=>if a.1=k then (a.1,u) else a):=by
 unfold KV at r ⊢;induction r with
 |nil=>exact .nil
 | @cons p q ps d h t c=>
  rw[cM,cM];refine .cons ?_ c;obtain⟨h1,h2⟩:=h;by_cases e:p.1=k
  .rw[aB e,aB (h1.symm.trans e)];exact⟨h1,b⟩
  .rw[av e,av (λz=>e (h1.trans z))];exact⟨h1,h2⟩
theorem KV.put{kvs:List (κ×V)}{vs:List (κ×Value)}(r:KV kvs vs)(k:κ){y:V}{u:Value}(a:RelV y u):KV (putK kvs k y) (stored vs k u):=by
 unfold putK stored;rw[r.any k];by_cases e:(vs.any λb=>decide (b.1=k))=true
 .rw[aB e,aB e];exact r.repl k a
 .rw[av e,av e];exact Paired.snoc r ⟨rfl,a⟩
theorem KV.keys{kvs:List (κ×V)}{vs:List (κ×Value)}(r:KV kvs vs):kvs.map (·.1)=vs.map (·.1):=by
 unfold KV at r;induction r with
 |nil=>rfl
 |cons h t a=>rw[cM,cM,a,h.1]
theorem KV.length{kvs:List (κ×V)}{vs:List (κ×Value)}(r:KV kvs vs):kvs.length=vs.length:=Paired.length r
end
theorem nv{P:Program}{w:World}{k:Key}{u:Value}(r:RelV (kV k) u):(c9 P w).is k u=true:=by
 cases k with
 |inl i=>obtain⟨t,e⟩:=(show ∃t,u=Value.int i t from r);subst e;exact Tv P w i t
 |inr x=>obtain⟨t,e⟩:=(show ∃t,u=Value.str x t from r);subst e;exact Tz P w x t
theorem Hx{P:Program}{w:World}:∀{b:Ee} {a:BM},Vals (b.map kV) a->ItemsAre (c9 P w) b a
 |[],_,r=>by rw[map_nil] at r;cases r;exact .nil
 |k::b,_,r=>by
  rw[cM] at r;cases r with
  |cons h t=>exact .cons (nv h) (Hx t)
abbrev KT(H:Hp):List (Ee×V)->List (Ee×Addr×Value)->Prop:=Paired λp q=>p.1=q.1/\H q.2.1=some (.tup (p.1.map kV))/\RelV p.2 q.2.2
theorem KT.val{H:Hp}{kvs:List (Ee×V)}{xs:List (Ee×Addr×Value)}(r:KT H kvs xs)(k:Ee):iJ (fF kvs k) ((atKey xs k).map (·.2)):=by
 induction r with
 |nil=>exact True.intro
 | @cons p q ps d h t c=>
  obtain⟨h1,_,h2⟩:=h;by_cases e:p.1=k
  .have a:q.1=k:=h1.symm.trans e
   have b:atKey (q::d) k=some q.2:=by simp[atKey,lQ,a]
   rw[C8 e,b];exact h2
  .have a:¬q.1=k:=λz=>e (h1.trans z)
   have b:atKey (q::d) k=atKey d k:=by simp[atKey,lQ,a]
   rw[C7 e,b];exact c
theorem KT.repl{H:Hp}{kvs:List (Ee×V)}{xs:List (Ee×Addr×Value)}(r:KT H kvs xs)(k:Ee){y:V}{u:Value}(b:RelV y u):
  KT H (kvs.map λa=>if a.1=k then (a.1,y) else a) (xs.map (putAt k u)):=by
 induction r with
 |nil=>exact .nil
 | @cons p q ps f h t c=>
  rw[cM,cM];refine .cons ?_ c;obtain⟨h1,h2,d⟩:=h;unfold putAt;by_cases e:p.1=k
  .rw[aB e,aB (h1.symm.trans e)];exact⟨h1,h2,b⟩
  .rw[av e,av (λz=>e (h1.trans z))];exact⟨h1,h2,d⟩
theorem KT.put{H:Hp}{kvs:List (Ee×V)}{xs:List (Ee×Addr×Value)}(r:KT H kvs xs)(k:Ee){b:Addr}{y:V}{u:Value}(c:H b=some (.tup (k.map kV)))(a:RelV y u):
  KT H (putK kvs k y) (storedH xs k b u):=by
 have e:(kvs.any λd=>decide (d.1=k))=(atKey xs k).isSome:=by
  rw[LC,(r.val k).t9,isSome_map]
 unfold putK storedH;rw[e];by_cases q:(atKey xs k).isSome=true
 .rw[aB q,aB q];exact r.repl k a
 .rw[av q,av q];exact Paired.snoc r ⟨rfl,c,a⟩
theorem KT.keeps{H H':Hp}{kvs:List (Ee×V)}{xs:List (Ee×Addr×Value)}(r:KT H kvs xs)(a:∀b ys,H b=some (.tup ys)->H' b=some (.tup ys)):KT H' kvs xs:=
 Paired.kE r λ_ _ z=>⟨z.1,a _ _ z.2.1,z.2.2⟩
section
variable{P:Program}{w:World}{H:Hp}{h:Heap}{a:Addr}
theorem Jy{u:HO}(ok:c8 P w H h)(e:Rd H a u):b9 P w H h a u:=e.ok ok
theorem oE{kvs:List (Key×V)}(ok:c8 P w H h)(e:Rd H a (.dK kvs)):kvs.length<=sizeLine/\(a==sysModules)=false/\∃vs,KV kvs vs/\h.DictOf (c9 P w) a vs:=
 show b9 P w H h a (.dK kvs) from Jy ok e
theorem s9{kvs:List (Key×V)}(ok:c8 P w H h)(e:H a=some (.dK kvs)):kvs.length<=sizeLine/\(a==sysModules)=false/\∃vs,KV kvs vs/\h.DictOf (c9 P w) a vs:=oE ok (.inl e)
theorem ua{c:Ee}(ok:c8 P w H h)(e:H a=some (.tup (c.map kV))):(tupleKind (c9 P w)).is h c a:=by
 obtain⟨_,d,r,p⟩:=(show b9 P w H h a (.tup (c.map kV)) from ok a _ e);obtain⟨o,h1,h2,n,b⟩:=p.is;exact⟨o,d.toArray,n,h1,h2,b,by simpa using Hx r⟩
theorem tu{kvs:List (Ee×V)}(ok:c8 P w H h)(e:Rd H a (.dT kvs)):kvs.length<=sizeLine/\(a==sysModules)=false/\
  ∃xs,KT H kvs xs/\h.DictOfH (tupleKind (c9 P w)) a xs:=by
 obtain⟨z,y,xs,r,o,es,ep,h1,h2,c,d,f⟩:=(show b9 P w H h a (.dT kvs) from Jy ok e);refine⟨z,y,xs,r,o,es,ep,h1,h2,c,d,λx hx=>?_,f⟩;have all:∀{l:List (Ee×V)} {m:List (Ee×Addr×Value)},KT H l m->∀x∈m,(tupleKind (c9 P w)).is h x.1 x.2.1:=by
  intro l m q;induction q with
  |nil=>intro x hx;exact nomatch hx
  | @cons p q ps i b t g=>
   intro x hx;rcases bx.mp hx with e|hx
   .subst e
    exact ua ok (by rw[<-b.1];exact b.2.1)
   .exact g x hx
 exact all r x hx
theorem OR{kvs:List (Ee×V)}(ok:c8 P w H h)(e:H a=some (.dT kvs)):kvs.length<=sizeLine/\(a==sysModules)=false/\
 ∃xs,KT H kvs xs/\h.DictOfH (tupleKind (c9 P w)) a xs:=tu ok (.inl e)
end
def qj(H:Hp)(a:Addr)(y:V)(r:Option V):Prop:=
 (∃kvs k,Rd H a (.dK kvs)/\y=kV k/\r=fF kvs k)\/∃kvs k b,Rd H a (.dT kvs)/\y=.ref b/\H b=some (.tup (k.map kV))/\r=fF kvs k
def sq(H:Hp)(a:Addr)(y v:V)(H':Hp):Prop:=
 (∃kvs k,H a=some (.dK kvs)/\y=kV k/\kvs.length<sizeLine/\H'=ax H a (.dK (putK kvs k v)))\/
 ∃kvs k b,H a=some (.dT kvs)/\y= .ref b/\H b=some (.tup (k.map kV))/\kvs.length<sizeLine/\H'=ax H a (.dT (putK kvs k v))
theorem sq.k{H:Hp}{a:Addr}{kvs:List (Key×V)}{k:Key}{v:V}(e:H a=some (.dK kvs))(hl:kvs.length<sizeLine):sq H a (kV k) v (ax H a (.dK (putK kvs k v))):=.inl ⟨kvs,k,e,rfl,hl,rfl⟩
section
variable{ae:aZ}{σ:St}{H:Hp}{s:Shared}{a:Addr}{y v:V}{u r:Value}{o:Option V}{A:Around}{E:aV}
theorem Inv.big(I:Inv X ae σ H s):sysModules<s.heap.objs.size:=by
 have h:mainGlobals<s.heap.objs.size:=(I.mod.glob.keeps I.bk).lt;exact lt_trans δ h
theorem NX{Q:aV}(n:A.units+1<cLine)(I:Inv X ae σ H s)(g:qj H a y (some v))(m:RelV y u)(h:∀d s',Inv X ae σ H s'->RelV v d->Q d s'):
  wpAny (model X.prog X.w) A (getItem (.ref a) u) Q E s:=by
 rcases g with⟨kvs,k,e,f,l⟩|⟨kvs,k,b,e,f,q,l⟩
 .subst f
  obtain⟨z,hd,vs,rel,t⟩:=oE I.ar e;obtain⟨d,i,c⟩:=iJ.some_of (v:=v) (o:=valueAt vs k) (by rw[l];exact rel.val k);exact wpAny_getItem_of (nv m) t.mapOf i (h d _ (I.tok _) c)
 .subst f
  cases (show u=Value.ref b from m);obtain⟨z,hd,xs,rel,t⟩:=tu I.ar e;obtain⟨d,i,c⟩:=iJ.some_of (v:=v) (o:=(atKey xs k).map (·.2)) (by rw[l];exact rel.val k);obtain⟨p,r,j⟩:=Option.map_eq_some_iff.mp i;refine wpAny_getItem_heap (zm n) (ua I.ar q) t r ?_;rw[j];exact h d _ (I.tok _) c
theorem NZ{Q:aV}(f:A.units+1<cLine)(I:Inv X ae σ H s)(g:qj H a y o)(d:RelV y u)(h:∀s',Inv X ae σ H s'->Q (.bool o.isSome) s'):
  wpAny (model X.prog X.w) A (compareOp .In u (.ref a)) Q E s:=by
 rcases g with⟨kvs,k,e,c,l⟩|⟨kvs,k,b,e,c,i,l⟩
 .subst c
  obtain⟨z,hd,vs,rel,j⟩:=oE I.ar e;refine wpAny_in_of (nv d) hd j.mapOf ?_;rw[<-(rel.val k).t9,<-l];exact h _ (I.tok _)
 .subst c
  cases (show u=Value.ref b from d);obtain⟨z,hd,xs,rel,j⟩:=tu I.ar e;refine wpAny_in_heap (zm f) (ua I.ar i) hd j ?_;have q:=(rel.val k).t9;rw[isSome_map] at q;rw[<-q,<-l];exact h _ (I.tok _)
theorem Oc{Q:aV}(f:A.units+1<cLine)(I:Inv X ae σ H s)(g:qj H a y o)(d:RelV y u)(h:∀s',Inv X ae σ H s'->Q (.bool (!o.isSome)) s'):
  wpAny (model X.prog X.w) A (compareOp .NotIn u (.ref a)) Q E s:=by
 rcases g with⟨kvs,k,e,c,l⟩|⟨kvs,k,b,e,c,i,l⟩
 .subst c
  obtain⟨z,hd,vs,rel,j⟩:=oE I.ar e;refine wpAny_notIn_of (nv d) hd j.mapOf ?_;rw[<-(rel.val k).t9,<-l];exact h _ (I.tok _)
 .subst c
  cases (show u=Value.ref b from d);obtain⟨z,hd,xs,rel,j⟩:=tu I.ar e;refine wpAny_notIn_heap (zm f) (ua I.ar i) hd j ?_;have q:=(rel.val k).t9;rw[isSome_map] at q;rw[<-q,<-l];exact h _ (I.tok _)
theorem we{h':Heap}{t':Nat}{c:HO}(I:Inv X ae σ H s)(d:sC (H a))(f:SameBut a s.heap h')(g:∃q,h'.get? a=some q)(new:b9 X.prog X.w (ax H a c) h' a c):
  Inv X ae σ (ax H a c) {s with heap:=h',toks:=t'}:=
 I.write (x:=a) (e:=a) d (.inl rfl) (λb q h z=>(f.2 b h).trans z) g new
theorem AJ{P:Program}{w:World}{H':Hp}{h':Heap}{kvs:List (Key×V)}{vs:List (Key×Value)}(z:kvs.length<=sizeLine)(hd:(a==sysModules)=false)(rel:KV kvs vs)(b:h'.DictOf (c9 P w) a vs):
 b9 P w H' h' a (.dK kvs):=⟨z,hd,vs,rel,b⟩
theorem Of{H':Hp}{Q:Unit->Shared->Prop}(x:A.units+1<cLine)(I:Inv X ae σ H s)(g:sq H a y v H')(n:RelV y u)(o:RelV v r)(h:∀s',Inv X ae σ H' s'->Q () s'):
  wpAny (model X.prog X.w) A (setItem (.ref a) u r) Q E s:=by
 rcases g with⟨kvs,k,e,i,l,j⟩|⟨kvs,k,b,e,i,p,l,j⟩
 .subst i j
  obtain⟨z,hd,vs,rel,G⟩:=s9 I.ar e;have J:vs.length<=sizeLine:=by rw[<-rel.length];exact z
  have hl:(putK kvs k v).length<=sizeLine:=by have:=BO kvs k v;omega
  refine wpAny_setItem_pairs (hsz:=J) (nv n) G λh' d m=>h _ ?_;have B:∃q,h'.get? a=some q:=let ⟨q,_,_,f,_⟩:=d;⟨q,f⟩;exact we I (by rw[e];exact True.intro) m B (AJ hl hd (rel.put k o) d)
 .subst i j
  cases (show u=Value.ref b from n);obtain⟨z,hd,xs,rel,G⟩:=OR I.ar e;have J:xs.length<=sizeLine:=by rw[<-Paired.length rel];exact z
  have hl:(putK kvs k v).length<=sizeLine:=by have:=BO kvs k v;omega
  refine wpAny_setItem_heap (hsz:=J) (zm x) (ua I.ar p) G λh' d m=>h _ ?_;obtain⟨q,es,ep,f,h2,C,D,_,F⟩:=d;refine we I (by rw[e];exact True.intro) m ⟨q,f⟩ ⟨hl,hd,_,(rel.put k p o).keeps λc ys t=>?_,q,es,ep,f,h2,C,D,F⟩;rw[aY (TY t e (λz=>nomatch z))];exact t
end
section
variable{ae:aZ}{σ:St}{H:Hp}{s:Shared}{a:Addr}{kvs:List (Key×V)}{k:Key}{u:Value}{A:Around}{E:aV}
theorem gz{Q:aV}(I:Inv X ae σ H s)(e:Rd H a (.dK kvs))(h:∀t s',Inv X ae σ H s'->Q (.int kvs.length t) s'):wpAny (model X.prog X.w) A (call (.builtin "len") [.ref a]) Q E s:=by
 obtain⟨z,hd,vs,rel,b⟩:=oE I.ar e;refine call_len_dict hd b (by rw[<-rel.length];rw[kN] at z;omega) ?_;rw[<-rel.length];exact h _ _ (I.tok _)
end
theorem OB{X:Cx}{ae:aZ}{σ:St}{H:Hp}{s:Shared}{a:Addr}{y:V}{o:Option V}(I:Inv X ae σ H s)(g:qj H a y o):s.TypeIs (.ref a) "dict":=by
 rcases g with⟨kvs,k,e,_,_⟩|⟨kvs,k,b,e,_,_,_⟩
 .obtain⟨_,_,vs,_,c⟩:=oE I.ar e
  exact c.typeIs
 .obtain⟨_,_,xs,_,c⟩:=tu I.ar e
  exact c.typeIs
def Ws(td ty tv:TE):TS:=λD σ H=>tv σ H λv H1=>td σ H1 λx H2=>ty σ H2 λy H3=>∃a H4,x=.ref a/\sq H3 a y v H4/\D.nx σ H4
section
variable{o i e value:Expr}{pos pos' tpos:Pos}{td ty tv:TE}
theorem VH(b:X.A.units+1<cLine)(c:PE X o td)(hi:PE X i ty)(d:PE X value tv)(e:swapsWith value (some (.Subscript o i pos')) pos.line X.env=pure false):
  PS X (.Assign [.Subscript o i pos'] value pos) (Ws td ty tv):=by
 intro ae s σ H D I h;refine wpAny_Assign_Subscript (aQ (d ae s σ H _ I h) λr f ⟨v,H1,j,k,l⟩=>aQ (c ae f σ H1 _ j l) λu m ⟨x,H2,n,p,q⟩=>aQ (hi ae m σ H2 _ n q) λE F ⟨y,G,t,w,a,z,ex,g,B⟩=>?_) e;subst ex;obtain rfl:u=Value.ref a:=p;exact Of b t g w k λs4 C=>⟨σ,z,C,B⟩
end
theorem FQ{P:Program}{w:World}{H:Hp}(h:Heap)(a:sysModules<h.objs.size):b9 P w H (h.push {cls:=.type "dict",data:=.dict #[]}) h.objs.size (.dK []):=
 ⟨b_ _,beq_eq_false_iff_ne.mpr (Ne.symm (bG a)),[],.nil,DictOf.new h⟩
def XS:TE:=λ_ H Q=>∀p,H p=none->Q (.ref p) (ax H p (.dK []))
section
variable{pos:Pos}
theorem U4:PE X (.Dict [] [] pos) XS:=λae s σ H Q I h=>
 wpAny_Dict_empty ⟨.ref s.heap.objs.size,_,I.laid (a:=s.heap.objs.size) (o:=.dK []) (t':=s.toks) (λ_ _ q=>bu _ q) (aJ _) (FQ s.heap I.big),rfl,h _ (I.ar.fresh (aJ _))⟩
end
def CV:List (TE×TE)->St->Hp->(List (V×V)->Hp->Prop)->Prop
 |[],_,H,Q=>Q [] H
 |(tk,tv)::r,σ,H,Q=>tk σ H λx H1=>tv σ H1 λy H2=>CV r σ H2 λps H3=>Q ((x,y)::ps) H3
abbrev VV:List (V×V)->List (Value×Value)->Prop:=Paired λp q=>RelV p.1 q.1/\RelV p.2 q.2
def vJ(X:Cx)(pos:Pos)(keys:List (Option Expr))(values:DD)(C3:List (TE×TE)):Prop:=
 ∀(ae:aZ) (s:Shared) (σ:St) (H:Hp) (Q:List (V×V)->Hp->Prop),Inv X ae σ H s->CV C3 σ H Q->
  wpAny (model X.prog X.w) X.A (evalPairs (pairTrees keys values X.env pos)) (λvs s'=>∃ps H',Inv X ae σ H' s'/\VV ps vs/\Q ps H') X.xe s
theorem VD{X:Cx}{pos:Pos}:vJ X pos [] [] []:=λae s σ H Q I h=>pairTrees_nil_walk ⟨[],H,I,.nil,h⟩
theorem VC{X:Cx}{pos:Pos}{k v:Expr}{z:List (Option Expr)}{vs:DD}{b tv:TE}{a:List (TE×TE)}(c:PE X k b)(d:PE X v tv)(e:vJ X pos z vs a):
  vJ X pos (some k::z) (v::vs) ((b,tv)::a):=λae s σ H Q I h=>
 pairTrees_cons_walk (aQ (c ae s σ H _ I h) λu f ⟨x,H1,g,i,j⟩=>aQ (d ae f σ H1 _ g j) λt l ⟨y,H2,m,n,o⟩=>
  aQ (e ae l σ H2 _ m o) λws w ⟨ps,p,q,rel,r⟩=>⟨(x,y)::ps,p,q,.cons ⟨i,n⟩ rel,r⟩)
def lE(kvs more:List (Key×V)):List (Key×V):=more.foldl (λacc kv=>putK acc kv.1 kv.2) kvs
theorem KV.merge:∀{a:List (Key×V)} {rs:List (Key×Value)} {kvs:List (Key×V)} {vs:List (Key×Value)},KV a rs->KV kvs vs->KV (lE kvs a) (merged vs rs):=by
 intro a rs kvs vs r;unfold KV at r;induction r generalizing kvs vs with
 |nil=>intro q;exact q
 | @cons p q ps d h t b=>
  intro c;have e:KV (putK kvs p.1 p.2) (stored vs q.1 q.2):=by
   have:=c.put p.1 h.2;rw[<-h.1];exact this
  exact b e
theorem BN:∀(a kvs:List (Key×V)),(lE kvs a).length<=kvs.length+a.length
 |[],kvs=>by show kvs.length<=kvs.length+0;omega
 |p::r,kvs=>by
  have h1:=BN r (putK kvs p.1 p.2);have h2:=BO kvs p.1 p.2;show(lE (putK kvs p.1 p.2) r).length<=_;rw[iA];omega
theorem E2{P:Program}{w:World}:∀{kvs:List (Key×V)} {ws:List (Value×Value)},VV (kvs.map λd=>(kV d.1,d.2)) ws->∃rs,Carries (c9 P w) ws rs/\KV kvs rs
 |[],_,r=>by rw[map_nil] at r;cases r;exact⟨[],True.intro,.nil⟩
 |p::kvs,_,r=>by
  rw[cM] at r;cases r with
  | @cons a b as bs h t=>
   obtain⟨rs,c,q⟩:=E2 (P:=P) (w:=w) t;obtain⟨f,e⟩:=b;exact⟨(p.1,e)::rs,⟨nv h.1,rfl,c⟩,.cons ⟨rfl,h.2⟩ q⟩
def XT(C3:List (TE×TE)):TE:=λσ H Q=>∀p,H p=none->CV C3 σ (ax H p (.dK [])) λps H2=>H2 p=some (.dK [])/\∃kvs:List (Key×V),ps=kvs.map (λkv=>(kV kv.1,kv.2))/\kvs.length<=15/\Q (.ref p) (ax H2 p (.dK (lE [] kvs)))
theorem U3{X:Cx}{pos:Pos}{keys:List (Option Expr)}{values:DD}{b:List (TE×TE)}(h:vJ X pos keys values b)(d:keys.all (·.isSome)=true)(hl:keys.length=values.length)(h0:keys≠[])
  (g:keys.length<=15):PE X (.Dict keys values pos) (XT b):=by
 intro ae s σ H Q I q;have j:=I.ar.fresh (aJ s.heap.objs.size);have k:=I.laid (a:=s.heap.objs.size) (o:=.dK []) (h':=s.heap.push {cls:=.type "dict",data:=.dict #[]}) (t':=s.toks) (λ_ _ q=>bu _ q) (aJ _) (FQ s.heap I.big);refine wpAny_Dict_walk (knd:=c9 X.prog X.w) d hl h0 g (aQ (h ae _ σ _ _ k (q _ j)) λws v ⟨ps,H2,i,rel,e,kvs,ep,lk,l⟩=>?_);subst ep;obtain⟨rs,c,m⟩:=E2 (P:=X.prog) (w:=X.w) rel;obtain⟨z,hd,n,p,x⟩:=s9 i.ar e;cases p;refine⟨rs,c,x,λh' f r=>⟨.ref s.heap.objs.size,_,?_,rfl,l⟩⟩;have y:(lE [] kvs).length<=sizeLine:=by
  have h1:=BN kvs [];rw[length_nil] at h1;rw[kN];omega
 have t:∃q,h'.get? s.heap.objs.size=some q:=let ⟨q,_,_,u,_⟩:=f;⟨q,u⟩;exact we i (by rw[e];exact True.intro) r t (AJ y hd (m.merge .nil) f)
end L2
end
namespace DC
open PySem PySem.W PySem.Calls PyProof.Rows
theorem RT{P:Params}{h:Heap}:∀(ns:Fn) (vs:BM),WellAll P h vs (ns.map WData.int)->IntsAre vs ns:=by
 intro ns;induction ns with
 |nil=>
  intro vs w;rw[map_nil] at w;cases w;exact .nil
 |cons n ns c=>
  intro vs w;rw[cM] at w;cases w with
  |cons a b=>
   cases a;exact .cons _ _ (c _ b)
theorem Xe{l:OpenLaw}{n:Nat}(k:l.most=some n){P:Params}{h:Heap}{args:List WData}{vals:BM}
  (b:l.row.toRowW.claim.pre args=true)(i:WellAll P h vals args):
  ∃a vs ns,vals=[Value.ref a]/\args=[WData.list (ns.map WData.int)]/\h.get? a=some {cls:=.type "list",data:=.seq vs.toArray}/\IntsAre vs ns/\ns.length<=n:=by
 have j:WShape.hasAll [] args [.list .int]=true:=(pre_splitW b).1;have hc:l.pre.holds [] {args:=args}=true:=(pre_splitW b).2;obtain⟨d,r,rfl,h1,h2⟩:=hasAllW_cons j;obtain rfl:=hasAllW_nil h2;obtain⟨xs,rfl,m⟩:=hasW_list h1;obtain⟨ns,rfl⟩:=items_int m;have c:ns.length<=n:=by
  unfold OpenLaw.pre at hc;have f:(WTm.not (.lt (.lit (.int (n:Int))) (.len (.arg 0)))).holds [] {args:=[.list (ns.map .int)]}=true:=by
   have f:=(holds_andW hc).1;rw[k] at f;exact f
  have g:=condW_of f (w_not (w_lt w_lit (w_len_list (w_arg rfl))));rw[aM] at g;refine Nat.le_of_not_lt λq=>?_;have o:(n:Int)<((ns.length:Nat):Int):=ω
  first
   |(rw[dg o] at g;exact absurd g δ)
   |(simp at g;omega)
 cases i with
 |cons p s=>
  cases s;cases p with
  |list t e=>exact⟨_,_,ns,rfl,rfl,t,RT ns _ e,c⟩
theorem VA(l:OpenLaw)(args:List WData):l.row.toRowW.claim.post args (.bool true) args=true:=
 postW_of (r:=l.row.toRowW) (X:=(true==true))
  (show WShape.has [] (.bool true) .bool=true by first|rfl|decide|simp[WShape.has,WShape.arms,WShape.armsAll])
  (show(WTm.eq .res (.lit (.bool true))).value [] {args:=args,res:=some (.bool true),after:=args}=some (.bool (true==true)) from w_eq_bool (w_res rfl) w_lit) rfl
theorem ML{l:OpenLaw}{n:Nat}{q:Program}{loose:Ap}{p:(ay)->Heap->Prop}{s:World->Heap->Prop}{d:DefRec}
  (v:l.most=some n)(i:d.params.defaults=[])
  (call:∀(w:World) (s₀ b:Shared) (mg mb:ay) (c:Addr) (o:Obj) (pm cd doc:Value) (a:Addr) (vs:BM) (ns:Fn),
   Ground q loose [] p w s₀ mg mb b.heap->s w b.heap->
   b.heap.get? c=some o->o.data= .func (docDef d.name d.params d.body d.scope pm cd doc)->b.heap.CodeRec cd d.name->mg d.name=some (.ref c)->
   b.heap.get? a=some {cls:= .type "list",data:= .seq vs.toArray}->IntsAre vs ns->ns.length<=n->b.gens= #[]->
   codeAny (model l.prog w) callerA (.call (.ref c) ⟨[.ref a],[]⟩) (λr s'=>r= .ok (.ret (.bool true))/\OldK b.heap s'.heap/\s'.os=b.os/\AllBare s'.gens) b):
  WalkO q loose p s l.row.toRowW d [] (λf vs=>PySem.call f vs):=by
 intro w s₀ b mg mb G Y c o pm cd doc x kV y hd j t k z args vals as e u A m B
 obtain rfl:x= .none:=Dflts.none t i
 obtain rfl:kV= .none:=Dflts.noKw t
 obtain⟨a,vs,ns,rfl,rfl,g,hints,h⟩:=Xe v e m
 refine enter_call (qe (call w s₀ b mg mb c o pm cd doc a vs ns G Y y (fd_plain hd) j k g hints h z) λr s' C=> ?_)
 obtain⟨rfl,h2,D,E⟩:=C
 exact⟨.inl ⟨.bool true,.bool true,[],rfl,λ_=>rfl,.bool true,VA l _,λ_=>⟨Pairwise.nil,λ_ F=>(nomatch F)⟩⟩,h2,D,E⟩
end DC
section
open PySem PySem.Spec PyProof.Rows
namespace L2
theorem LF:∀{vs:BM} {ns:Fn},IntsAre vs ns->Vals (ns.map V.int) vs
 |_,_,.nil=>.nil
 |_,_,.cons n t h=>.cons ⟨t,rfl⟩ (LF h)
def vI(H:Hp):Prop:=∀b,H b=none\/∃o xs,H b=some (.bW o (.lst xs))
theorem SA{P:Program}{w:World}{K:Frag}{mg mb:ay}{CX:jk}{k:Nat}{D a:Addr}{fd:FuncData}{x:Str}{sp:Sp}{c:Shared}{vs:BM}{ns:Fn}
  (N:K.In c.heap)(l:c.heap.Ns mainGlobals mg)(g:c.heap.Ns builtinsNs mb)(E:∀x:Str,x≠"__name__"->mb x=bootBuiltins x)(p:c.heap.NoLimit)(T:c.gens= #[])
  (C:c.heap.get? a=some {cls:= .type "list",data:= .seq vs.toArray})(hi:IntsAre vs ns)(hl:ns.length<=sizeLine)(U:eL k callerA)
  (F:∀base:Heap,K.In base->base.Ns mainGlobals mg->gx P w K mg base CX k D fd [x] sp)(j:∀(s:Shared) (u:Value),BindsTo s fd ⟨[u],[]⟩ [(x,u)])
  (G:∀H:Hp,vI H->bf K H a (ns.map V.int)->sp [.ref a] H (λv _=>v= .bl true) λ_ _ _=>False)
  (I:∀H e s',CX [] H c (λ_ _ _=>False) e s'->False):
  codeAny (model P w) callerA (.call (.ref D) ⟨[.ref a],[]⟩) (λr s'=>r= .ok (.ret (.bool true))/\OldK c.heap s'.heap/\s'.os=c.os/\AllBare s'.gens) c:=by
 have O:=LF hi
 have t:=hi.length
 have core:∀H:Hp,vI H->bf K H a (ns.map V.int)->c8 P w H c.heap->(∀b,H b≠none->b=a)->(H a≠none->K.lookup a=none)->
   codeAny (model P w) callerA (.call (.ref D) ⟨[.ref a],[]⟩) (λr s'=>r= .ok (.ret (.bool true))/\OldK c.heap s'.heap/\s'.os=c.os/\AllBare s'.gens) c:=by
  intro H Q W ar R X
  have f:∀{b:Addr} {o:Obj},c.heap.get? b=some o->H b=none->(mj c.heap H).get? b=some o:=λe n=>Q9 e n
  have J:∀{b:Addr} {o:Obj} {es:Array DictEntry} {ep:Nat},c.heap.get? b=some o->o.data= .dict es ep->H b=none:=λ {b o es ep} e d=>by
   cases q:H b with
   |none=>rfl
   |some u=>
    have L:b=a:=R b (by rw[q];simp)
    subst L
    rw[C] at e;cases e
    have d':Data.seq vs.toArray _=Data.dict es ep:=d
    cases d'
  have i:∀{b:Addr} {m:ay},c.heap.Ns b m->(mj c.heap H).Ns b m:=λ {b m} ⟨o,es,ep,e,d,r⟩=>⟨o,es,ep,f e (J e d),d,r⟩
  have y:K.In (mj c.heap H):=λb o e=>f (N b o e) (by
   cases q:H b with
   |none=>rfl
   |some u=>
    have L:b=a:=R b (by rw[q];simp)
    subst L
    rw[X (by rw[q];simp)] at e;cases e)
  have Y:Mod K mg (mj c.heap H):=⟨y,i l,⟨mb,i g,E⟩,let ⟨mc,h1,h2⟩:=p;⟨mc,i h1,h2⟩⟩
  have Z:ql P w K mg (mj c.heap H) callerA [] c H:=⟨rfl,Y,λb o e=>Ui e,Nat.le_of_eq (Q_ _ _),trivial,λb g=>absurd (show b∈([]:D1) from g) θ,ar,.of_eq T⟩
  refine qe ((F _ y (i l)).run callerA [] c H ⟨[.ref a],[]⟩ [.ref a] [.ref a] _ _ U Z (j c (.ref a)) (.cons rfl .nil) (G H Q W)) λr s' h=> ?_
  cases r with
  |error e=>exact(I H e s' h).elim
  |ok fl=>
   cases fl with
   |next=>exact False.elim h
   |brk=>exact False.elim h
   |cont=>exact False.elim h
   |ret u=>
    obtain⟨v,H',os,bare,un,A,r',q⟩:=h
    have q':v= .bl true:=q
    subst q'
    obtain rfl:u=Value.bool true:=r'
    refine⟨rfl,OldK.of_keep λb o e=> ?_,os,bare⟩
    cases q:H b with
    |none=>exact un.keep b o e q (by intro z;exact absurd (show b∈([]:D1) from z) θ) θ
    |some u=>
     rcases Q b with z|⟨ob,xs,z⟩
     .rw[q] at z;cases z
     .have z2:=un.fQ b ob _ z
      obtain⟨S,_⟩:=ar b _ z
      obtain⟨e2,_⟩:=A b _ z2
      rw[e] at S;cases S
      exact e2
 cases M:K.lookup a with
 |some o=>
  have e:=N a o M
  rw[C] at e
  cases e
  refine core (λ_=>none) (λ_=> .inl rfl) (.inr ⟨_,vs.toArray,_,M,rfl,rfl,rfl,by rw[cE,t];exact hl,by simpa using O⟩) (λb u z=>by have B:(none:Option HO)=some u:=z;cases B) (λb z=>absurd rfl z) λz=>absurd rfl z
 |none=>
  refine core (λb=>if b=a then some (.bW {cls:= .type "list",data:= .seq vs.toArray} (.lst (ns.map V.int))) else none) (λb=> ?_) (.inl (.inr ⟨{cls:= .type "list",data:= .seq vs.toArray},aB rfl⟩)) (λb u z=> ?_) (λb z=> ?_) λ_=>M
  .by_cases g:b=a
   .exact .inr ⟨_,_,aB g⟩
   .exact .inl (av g)
  .by_cases g:b=a
   .have B:=(aB g).symm.trans z
    cases B
    subst g
    exact⟨C,by rw[aM];exact hl,vs,_,O,C⟩
   .have B:=(av g).symm.trans z
    cases B
  .by_cases g:b=a
   .exact g
   .exact absurd (av g) z
theorem YM{l:PySem.W.OpenLaw}{n k:Nat}{q:Program}{loose:Ap}{C:(ay)->Heap->Prop}{A:World->Heap->Prop}{d:DefRec}{K:Params->Frag}{CX:World->jk}{sp:World->Sp}{x:Str}
  (D:l.most=some n)(p:n<=sizeLine)(r:d.params.defaults=[])(E:eL k callerA)
  (I:∀(w:World) (h:Heap),A w h->(K w.params).In h)
  (F:∀(w:World) (mg:ay) (m:Addr) (h:Heap),(K w.params).In h->h.Ns mainGlobals mg->mg d.name=some (.ref m)->
   ∃fd:FuncData,(∀(s:Shared) (u:Value),BindsTo s fd ⟨[u],[]⟩ [(x,u)])/\
    ∀base:Heap,(K w.params).In base->base.Ns mainGlobals mg->gx l.prog w (K w.params) mg base (CX w) k m fd [x] (sp w))
  (t:∀(w:World) (H:Hp) (a:Addr) (ns:Fn),ns.length<=n->vI H->bf (K w.params) H a (ns.map V.int)->sp w [.ref a] H (λv _=>v= .bl true) λ_ _ _=>False)
  (y:∀(w:World) (H:Hp) (s:Shared) (e:Value) (s':Shared),CX w [] H s (λ_ _ _=>False) e s'->False):
  PySem.W.WalkO q loose C A l.row.toRowW d [] (λf vs=>PySem.call f vs):=by
 refine DC.ML D r λw s₀ i mg mb m o pm cd doc a vs ns G Y Q hd J z j hints c L=> ?_
 have B:=I w _ Y
 obtain⟨fd,M,N⟩:=F w mg m _ B G.T.g z
 exact SA B G.T.g G.T.b G.T.builtins G.T.nolimit L j hints (d7 c p) E N M (λH O P=>t w H a ns c O P) λH e s'=>y w H i e s'
noncomputable def m8(s:Stmt):Arguments:=match s with
 |.FunctionDef _ a _ _ _ _ _ _ _ _=>a
 |_=>{posonlyargs:=[],args:=[],vararg:=none,kwonlyargs:=[],kw_defaults:=[],kwarg:=none,defaults:=[]}
noncomputable def ir(s:Stmt):FK:=match s with
 |.FunctionDef _ _ b _ _ _ _ _ _ _=>b
 |_=>[]
noncomputable def aO(s:Stmt):Scope:=match s with
 |.FunctionDef _ _ _ _ _ _ sc _ _ _=>sc
 |_=>{kind:=.function,names:=[],isGenerator:=false,isCoroutine:=false}
abbrev qi:jk:=λ_ _ _ _ _ _=>False
abbrev E0:XK:=λ_ _ _=>False
structure lW(K:Frag)(x qual:Str)(st:Stmt)(f:Addr)(fd:FuncData):Prop where
 ex:∃(oc:Value) (od:Option Addr) (kV doc pm:Value) (an:Option Addr) (cdv ct:Value) (osl:Array (Option Value)),
  fd=fnOf x qual (m8 st) (ir st) (aO st) .none kV doc pm an cdv ct/\K.lookup f=some ⟨oc,od,.func fd,osl⟩/\codeIn K cdv qual=true
 kp:keepIn K (.ref f)=true
section
variable{P:Program}{w:World}{K:Frag}{mg:ay}{base:Heap}
theorem lW.binds{x qual:Str}{st:Stmt}{f:Addr}{fd:FuncData}{ps:Ap}(F:lW K x qual st f fd)
  (h:∀(kV doc pm:Value) (an:Option Addr) (a ct:Value) (b:BM),b.length=ps.length->bindArgs (fnOf x qual (m8 st) (ir st) (aO st) .none kV doc pm an a ct) ⟨b,[]⟩=pure (ps.zip b)):Binds K fd ps []:=by
 obtain⟨e,g,kV,doc,pm,an,a,ct,c,rfl,lk,d⟩:=F.ex;exact .all (h kV doc pm an a ct)
theorem Bd{x qual:Str}{st:Stmt}{f:Addr}{d:Value}{e an:Option Addr}{b:Array (Option Value)}{kV doc pm a ct:Value}(l:K.lookup f=some ⟨d,e,.func (fnOf x qual (m8 st) (ir st) (aO st) .none kV doc pm an a ct),b⟩)
 (c:codeIn K a qual=true)(k:keepIn K (.ref f)=true):lW K x qual st f (fnOf x qual (m8 st) (ir st) (aO st) .none kV doc pm an a ct):=⟨⟨d,e,kV,doc,pm,an,a,ct,b,rfl,l,c⟩,k⟩
end
section
variable{X:Cx}
theorem M1:fy X (.builtin "len") (λxs H Q=>∃a kvs,xs=[V.ref a]/\H a=some (.dK kvs)/\Q (.int kvs.length) H):=by
 intro ae s σ H xs e Q I r h;obtain⟨a,kvs,rfl,b,q⟩:=h;obtain⟨u,rfl,c⟩:=vals1 r;cases c;exact gz I (.inl b) λt s' d=>⟨.int kvs.length,H,d,⟨t,rfl⟩,q⟩
end
theorem R1{A B:Prop}(h:B):if false=true then A else B:=by
 rw[av cC];exact h
theorem R3{A B:Prop}(h:A):if true=true then A else B:=by
 rw[aB rfl];exact h
def g_(H H':Hp):Prop:=∀b o,H b=some o->H' b=some o
end L2
end
namespace PySem
open Sem (wp)
namespace ZL
abbrev kU(h:Heap)(z TI TO:Addr)(f0 f1:Value):Prop:=
 h.get? z=some {cls:=.type "zip",dict:=none,data:=.fields #[f0,f1,.bool false,.ref TI,.ref TO],slots:= #[]}
section
variable{prog:Program}{w:World}{A:Around}{E:aV}{s:Shared}
theorem YZ{z TI TO i1 i2 l1 l2 T:Addr}{F:Obj}{m:Bool}{U V:Nat}{xs ys:Array Value}{x y:Value}{Q:aV}(D:ZipApart z TI TO i1 i2 l1 l2)
  (S:kU s.heap z TI TO (rawInt T) (.bool m))(H:s.heap.get? T=some F)(I:T≠z)(n:IsPair s.heap TI (.ref i1) (.ref i2))
  (h1:s.heap.IsListIter i1 l1 U)(h2:s.heap.IsListIter i2 l2 V)(q:s.heap.IsList l1 xs)(t:s.heap.IsList l2 ys)(J:xs[U]? =some x)(K:ys[V]? =some y)
  (L:∀h',kU h' z TI TO (rawInt T) (.bool true)->h'.IsListIter i1 l1 (U+1)->h'.IsListIter i2 l2 (V+1)->IsPair h' s.heap.objs.size x y->h'.objs.size=s.heap.objs.size+1->
   (∀c o,c≠z->c≠i1->c≠i2->s.heap.get? c=some o->h'.get? c=some o)->Q (.ref s.heap.objs.size) {s with heap:=h'}):
  wpAny (model prog w) A (Builtin.«zip.__next__» ⟨[.ref z],[]⟩) (λfin s'=>∃v,fin= .done (.ret v)/\Q v s') E s:=by
 show wpAny _ _ (field (.ref z) 2>>=_) _ _ _
 refine ai (nN S rfl (x:= .bool false) rfl ?_)
 show wpAny _ _ (field (.ref z) 3>>=_) _ _ _
 refine ai (nN S rfl (x:= .ref TI) rfl ?_)
 refine ai (rP n rfl ?_)
 show wpAny _ _ (Builtin.SmallTypes.ownedTupleIsFree (.ref z)>>=_) _ _ _
 have first:wpAny (model prog w) A (Builtin.SmallTypes.ownedTupleIsFree (.ref z)) (λb s'=>b=false/\∃f,s'={s with heap:=f}/\kU f z TI TO (rawInt T) (.bool true)/\SameBut z s.heap f) E s:=by
  unfold Builtin.SmallTypes.ownedTupleIsFree
  refine ai (nN S rfl (x:=rawInt T) rfl ?_)
  show wpAny _ _ (loadIfAlive ((T:Int)).toNat>>=_) _ _ _
  have M:∀{R:Option Obj->Shared->Prop},R (some F) s->wpAny (model prog w) A (loadIfAlive ((T:Int)).toNat) R E s:=λ {R} h=>by
   intro O p _
   unfold loadIfAlive
   rw[Sem.wp_loadIfAlive,rL,H]
   exact h
  refine ai (M ?_)
  rw[av θ]
  refine ai (nN S rfl (x:= .bool m) rfl ?_)
  cases m with
  |true=>exact aK ⟨rfl,s.heap,rfl,S,.refl ..⟩
  |false=>
   show wpAny _ _ (setField (.ref z) 1 (.bool true)>>=_) _ _ _
   exact ai (wpAny_setField_rec S θ λf i a=>aK ⟨rfl,f,rfl,i,a⟩)
 refine ai (jA first (λb s' N=> ?_) λ_ _ e=>e)
 obtain⟨rfl,f,rfl,i,a⟩:=N
 show wpAny _ _ (forIn _ _ _>>=_) _ _ _
 refine ai ?_
 rw[<-Array.forIn_toList]
 simp only[forIn_cons,forIn_nil]
 refine ai (ai (fV ?_))
 show wpAny _ _ (Builtin.SmallTypes.nextOf (.ref i1)>>=_) _ _ _
 refine ai (Dh (h1.extBut a.extBut D.i1z) (q.extBut a.extBut D.l1z) J λG k d=>aK (aK ?_))
 refine ai (ai (fV ?_))
 show wpAny _ _ (Builtin.SmallTypes.nextOf (.ref i2)>>=_) _ _ _
 refine ai (Dh ((h2.extBut a.extBut D.i2z).extBut d.extBut D.i12.symm) ((t.extBut a.extBut D.l2z).extBut d.extBut D.l2i1) K λj l g=>aK (aK (aK ?_)))
 show wpAny _ _ (newTuple [x,y]>>=λr=>ret r) _ _ _
 have P:j.objs.size=s.heap.objs.size:=by rw[g.1,d.1,a.1]
 refine ai (jB (aK ⟨_,rfl,?_⟩) (by show 2<=sizeLine;decide))
 show Q (.ref j.objs.size) _
 rw[P]
 have up:∀c o,c≠z->c≠i1->c≠i2->s.heap.get? c=some o->j.get? c=some o:=λc o u B C e=>g.extBut _ _ C (d.extBut _ _ B (a.extBut _ _ u e))
 refine L _ (bu _ (g.extBut _ _ D.i2z.symm (d.extBut _ _ D.i1z.symm i))) ((k.extBut g.extBut D.i12).at λo e=>bu _ e) (l.at λo e=>bu _ e) ?_ (by rw[gU,P]) λc o u B C e=>bu _ (up c o u B C e)
 rw[<-P]
 exact cS _ rfl
theorem US{z TI TO T:Addr}{f:Obj}{e:Bool}(k:kU s.heap z TI TO (rawInt T) (.bool e))(g:s.heap.get? T=some f):
  wpAny (model prog w) A (Builtin.SmallTypes.ownedTupleIsFree (.ref z)) (λb s'=>b=false/\∃a,s'={s with heap:=a}/\kU a z TI TO (rawInt T) (.bool true)/\SameBut z s.heap a) E s:=by
 unfold Builtin.SmallTypes.ownedTupleIsFree;refine ai (nN k rfl (x:=rawInt T) rfl ?_);show wpAny _ _ (loadIfAlive ((T:Int)).toNat>>=_) _ _ _;have i:∀{R:Option Obj->Shared->Prop},R (some f) s->wpAny (model prog w) A (loadIfAlive ((T:Int)).toNat) R E s:=λ {R} h=>by
  intro j p _;unfold loadIfAlive;rw[Sem.wp_loadIfAlive,rL,g];exact h
 refine ai (i ?_);rw[av θ];refine ai (nN k rfl (x:=.bool e) rfl ?_);cases e with
 |true=>exact aK ⟨rfl,s.heap,rfl,k,.refl ..⟩
 |false=>
  show wpAny _ _ (setField (.ref z) 1 (.bool true)>>=_) _ _ _;exact ai (wpAny_setField_rec k θ λa c d=>aK ⟨rfl,a,rfl,c,d⟩)
theorem YY{z TI TO i1 i2 l1 l2 T:Addr}{C:Obj}{F:Bool}{K L:Nat}{xs ys:Array Value}{Q:Fin->Shared->Prop}(v:A.handled=none)(D:ZipApart z TI TO i1 i2 l1 l2)
  (M:kU s.heap z TI TO (rawInt T) (.bool F))(G:s.heap.get? T=some C)(l:IsPair s.heap TI (.ref i1) (.ref i2))
  (h1:s.heap.IsListIter i1 l1 K)(h2:s.heap.IsListIter i2 l2 L)(i:s.heap.IsList l1 xs)(m:s.heap.IsList l2 ys)(j:xs[K]? =none\/ys[L]? =none)
  (y:∀h' e,(∀c o,c≠z->c≠i1->c≠i2->s.heap.get? c=some o->h'.get? c=some o)->(∃o,h'.get? e=some o/\o.cls= .type "StopIteration")->E (.ref e) {s with heap:=h'}):
  wpAny (model prog w) A (Builtin.«zip.__next__» ⟨[.ref z],[]⟩) Q E s:=by
 show wpAny _ _ (field (.ref z) 2>>=_) _ _ _
 refine ai (nN M rfl (x:= .bool false) rfl ?_)
 show wpAny _ _ (field (.ref z) 3>>=_) _ _ _
 refine ai (nN M rfl (x:= .ref TI) rfl ?_)
 refine ai (rP l rfl ?_)
 show wpAny _ _ (Builtin.SmallTypes.ownedTupleIsFree (.ref z)>>=_) _ _ _
 refine ai (jA (US M G) (λb s' H=> ?_) λ_ _ e=>e)
 obtain⟨rfl,B,rfl,n,a⟩:=H
 show wpAny _ _ (forIn _ _ _>>=_) _ _ _
 refine ai ?_
 rw[<-Array.forIn_toList]
 simp only[forIn_cons,forIn_nil]
 refine ai (ai (fV ?_))
 show wpAny _ _ (Builtin.SmallTypes.nextOf (.ref i1)>>=_) _ _ _
 cases p:xs[K]? with
 |none=>
  refine ai (wpAny_nextOf_list_end v (h1.extBut a.extBut D.i1z) (i.extBut a.extBut D.l1z) p λf e d q=> ?_)
  exact y f e (λc o r t _ x=>d _ _ t (a.extBut _ _ r x)) q
 |some x=>
  have I:ys[L]? =none:=by rcases j with h|h;rw[p] at h;cases h;exact h
  refine ai (Dh (h1.extBut a.extBut D.i1z) (i.extBut a.extBut D.l1z) p λf u d=>aK (aK ?_))
  refine ai (ai (fV ?_))
  show wpAny _ _ (Builtin.SmallTypes.nextOf (.ref i2)>>=_) _ _ _
  refine ai (wpAny_nextOf_list_end v ((h2.extBut a.extBut D.i2z).extBut d.extBut D.i12.symm) ((m.extBut a.extBut D.l2z).extBut d.extBut D.l2i1) I λk e g q=> ?_)
  exact y k e (λc o r t J x=>g _ _ J (d.extBut _ _ t (a.extBut _ _ r x))) q
theorem V4{z TI TO i1 i2 l1 l2 T:Addr}{g:Obj}{h:Bool}{r t:Nat}{xs ys:Array Value}{x y:Value}{Q:Option Value->Shared->Prop}(D:ZipApart z TI TO i1 i2 l1 l2)
  (u:kU s.heap z TI TO (rawInt T) (.bool h))(i:s.heap.get? T=some g)(b:T≠z)(d:IsPair s.heap TI (.ref i1) (.ref i2))
  (h1:s.heap.IsListIter i1 l1 r)(h2:s.heap.IsListIter i2 l2 t)(e:s.heap.IsList l1 xs)(f:s.heap.IsList l2 ys)(j:xs[r]? =some x)(k:ys[t]? =some y)
  (l:∀h',kU h' z TI TO (rawInt T) (.bool true)->h'.IsListIter i1 l1 (r+1)->h'.IsListIter i2 l2 (t+1)->IsPair h' s.heap.objs.size x y->h'.objs.size=s.heap.objs.size+1->
   (∀c o,c≠z->c≠i1->c≠i2->s.heap.get? c=some o->h'.get? c=some o)->Q (some (.ref s.heap.objs.size)) {s with heap:=h'}):
  wpAny (model prog w) A (pyNext (.ref z)) Q E s:=by
 have a:s.TypeIs (.ref z) "zip":=⟨_,u,rfl⟩
 unfold pyNext
 exact ai (nM (rN (name:=Str.ofString "__next__") a zl
  (jY zl a F.entry_zip_next
   (YZ D u i b d h1 h2 e f j k λh' v B m n p q=>aK (l h' v B m n p q)) (F.args_zip_next_1 _))))
theorem V3{z TI TO i1 i2 l1 l2 T:Addr}{i:Obj}{j:Bool}{r t:Nat}{xs ys:Array Value}{Q:Option Value->Shared->Prop}(k:A.handled=none)(D:ZipApart z TI TO i1 i2 l1 l2)
  (u:kU s.heap z TI TO (rawInt T) (.bool j))(l:s.heap.get? T=some i)(f:IsPair s.heap TI (.ref i1) (.ref i2))
  (h1:s.heap.IsListIter i1 l1 r)(h2:s.heap.IsListIter i2 l2 t)(g:s.heap.IsList l1 xs)(h:s.heap.IsList l2 ys)(a:xs[r]? =none\/ys[t]? =none)
  (m:∀h',(∀c o,c≠z->c≠i1->c≠i2->s.heap.get? c=some o->h'.get? c=some o)->Q none {s with heap:=h'}):wpAny (model prog w) A (pyNext (.ref z)) Q E s:=by
 have d:s.TypeIs (.ref z) "zip":=⟨_,u,rfl⟩
 unfold pyNext
 refine ai (nM (rN (name:=Str.ofString "__next__") d zl
  (jY zl d F.entry_zip_next (YY k D u l f h1 h2 g h a λh' e n p=> ?_) (F.args_zip_next_1 _))))
 obtain⟨o,q,hc⟩:=p
 refine ai (zp (T:="StopIteration") (b:=true) ⟨o,q,hc⟩ isSubtype_stop ?_)
 exact aK (m _ n)
structure ZS(z TI TO i1 i2 l1 l2 base:Addr)(xs ys:Array Value)(k:Nat)(h:Heap):Prop where
 zip:(k=0/\IsZip h z TI TO .none)\/(0<k/\∃bb,kU h z TI TO (rawInt base) (.bool bb))
 ti:IsPair h TI (.ref i1) (.ref i2)
 to:∃a b,IsPair h TO a b
 qO:h.IsListIter i1 l1 k
 qP:h.IsListIter i2 l2 k
 jb:h.IsList l1 xs
 kD:h.IsList l2 ys
 sz:h.objs.size=base+k
 old:∀(j:Nat) x y,j<k->xs[j]? =some x->ys[j]? =some y->IsPair h (base+j) x y
structure m5(z TI TO i1 i2 l1 l2 base:Addr):Prop where
 z:z<base
 to:TO<base
 i1:i1<base
 i2:i2<base
theorem ZS.ax{z TI TO i1 i2 l1 l2 base S:Addr}{xs ys:Array Value}{k:Nat}{h h':Heap}(Z:ZS z TI TO i1 i2 l1 l2 base xs ys k h)(c:∀b o,b≠S->h.get? b=some o->h'.get? b=some o)(d:h'.objs.size=h.objs.size)
  (n1:z≠S)(n2:TI≠S)(n3:TO≠S)(n4:i1≠S)(n5:i2≠S)(n6:l1≠S)(n7:l2≠S)(n8:S<base):ZS z TI TO i1 i2 l1 l2 base xs ys k h' where
 zip:=by
  rcases Z.zip with⟨e,q⟩|⟨e,f,q⟩
  .exact .inl ⟨e,c _ _ n1 q⟩
  .exact .inr ⟨e,f,c _ _ n1 q⟩
 ti:=c _ _ n2 Z.ti
 to:=let ⟨a,b,q⟩:=Z.to;⟨a,b,c _ _ n3 q⟩
 qO:=Z.qO.at λo e=>c _ o n4 e
 qP:=Z.qP.at λo e=>c _ o n5 e
 jb:=Z.jb.at λo e=>c _ o n6 e
 kD:=Z.kD.at λo e=>c _ o n7 e
 sz:=d.trans Z.sz
 old:=λj x y g i l=>c _ _ (mQ (dj n8 (lK _ _))) (Z.old j x y g i l)
theorem Y5{z TI TO i1 i2 l1 l2 base:Addr}{xs ys:Array Value}{k:Nat}{x y:Value}{Q:Option Value->Shared->Prop}(D:ZipApart z TI TO i1 i2 l1 l2)(L:m5 z TI TO i1 i2 l1 l2 base)
  (Z:ZS z TI TO i1 i2 l1 l2 base xs ys k s.heap)(g:xs[k]? =some x)(h:ys[k]? =some y)
  (M:∀h',ZS z TI TO i1 i2 l1 l2 base xs ys (k+1) h'->(∀c o,c≠z->c≠TO->c≠i1->c≠i2->s.heap.get? c=some o->h'.get? c=some o)->Q (some (.ref (base+k))) {s with heap:=h'}):
  wpAny (model prog w) A (pyNext (.ref z)) Q E s:=by
 obtain⟨a,b,f⟩:=Z.to
 have new:∀h',(∀c o,c≠z->c≠TO->c≠i1->c≠i2->s.heap.get? c=some o->h'.get? c=some o)->IsPair h' s.heap.objs.size x y->∀(j:Nat) i l,j<k+1->xs[j]? =some i->ys[j]? =some l->IsPair h' (base+j) i l:=λh' d O j i l P m n=>by
  by_cases p:j=k
  .subst p
   rw[g] at m;rw[h] at n;cases m;cases n
   rw[<-Z.sz]
   exact O
  .have lo:∀c,c<base->base+j≠c:=λc hc e=>absurd (dj hc (lK base j)) (by rw[e];exact gu _)
   exact d _ _ (lo _ L.z) (lo _ L.to) (lo _ L.i1) (lo _ L.i2) (Z.old j i l ω m n)
 rcases Z.zip with⟨e,q⟩|⟨e,R,q⟩
 .subst e
  refine wpAny_pyNext_zip_item D q Z.ti f Z.qO Z.qP Z.jb Z.kD g h λh' S T t u v B d=> ?_
  have C:s.heap.objs.size=base:=Z.sz
  have r:=M h' ⟨.inr ⟨succ_pos _,false,by rw[C] at S;exact S⟩,d _ _ D.TIz D.TITO D.TIi1 D.TIi2 Z.ti,⟨_,_,T⟩,t,u,Z.jb.at λo e=>d _ o D.l1z D.l1TO D.l1i1 D.l1i2 e,Z.kD.at λo e=>d _ o D.l2z D.l2TO D.l2i1 D.l2i2 e,
   by rw[B,C],new h' d v⟩ d
  rw[C]
  exact r
 .obtain⟨x0,F⟩:∃x0,xs[0]? =some x0:=⟨xs[0]'(by have:=(zB.mp g).1;omega),gw _⟩
  obtain⟨G,H⟩:∃G,ys[0]? =some G:=⟨ys[0]'(by have:=(zB.mp h).1;omega),gw _⟩
  have N:=Z.old 0 x0 G e F H
  rw[Nat.add_zero] at N
  refine V4 D q N (mQ L.z) Z.ti Z.qO Z.qP Z.jb Z.kD g h λh' S t u v B d=> ?_
  have r:=M h' ⟨.inr ⟨succ_pos _,true,S⟩,d _ _ D.TIz D.TIi1 D.TIi2 Z.ti,⟨_,_,d _ _ D.TOz D.TOi1 D.TOi2 f⟩,t,u,Z.jb.at λo e=>d _ o D.l1z D.l1i1 D.l1i2 e,Z.kD.at λo e=>d _ o D.l2z D.l2i1 D.l2i2 e,
   by rw[B,Z.sz];rfl,new h' (λc o I _ J K e=>d c o I J K e) v⟩ λc o I _ J K e=>d c o I J K e
  rw[Z.sz]
  exact r
theorem Y4{z TI TO i1 i2 l1 l2 base:Addr}{xs ys:Array Value}{k:Nat}{Q:Option Value->Shared->Prop}(j:A.handled=none)(D:ZipApart z TI TO i1 i2 l1 l2)
  (Z:ZS z TI TO i1 i2 l1 l2 base xs ys k s.heap)(d:k=min xs.size ys.size)
  (l:∀h',(∀c o,c≠z->c≠TO->c≠i1->c≠i2->s.heap.get? c=some o->h'.get? c=some o)->Q none {s with heap:=h'}):wpAny (model prog w) A (pyNext (.ref z)) Q E s:=by
 obtain⟨a,b,f⟩:=Z.to
 have m:xs[k]? =none\/ys[k]? =none:=by
  subst d
  rcases Nat.le_total xs.size ys.size with h|h
  .exact .inl (by rw[Nat.min_eq_left h];exact sd (aJ _))
  .exact .inr (by rw[Nat.min_eq_right h];exact sd (aJ _))
 rcases Z.zip with⟨e,q⟩|⟨e,v,q⟩
 .exact wpAny_pyNext_zip_end j D q Z.ti f Z.qO Z.qP Z.jb Z.kD m l
 .have g:0<xs.size:=ω
  have i:0<ys.size:=ω
  have n:=Z.old 0 _ _ e (gw g) (gw i)
  rw[Nat.add_zero] at n
  exact V3 j D q n Z.ti Z.qO Z.qP Z.jb Z.kD m λh' p=>l h' λc o r _ t u e=>p c o r t u e
def fL(base k:Nat):Array Value:=((range k).map λj=>Value.ref (base+j)).toArray
theorem V_(base k:Nat):fL base (k+1)=(fL base k).push (.ref (base+k)):=by
 unfold fL;rw[List.range_succ,c_];simp
theorem Cw(base k:Nat):(fL base k).size=k:=by simp[fL]
end
namespace F
theorem Y3:typeLookup (.type "zip") "__len__"=pure none:=by rw[p5,qd];kernel_rfl
theorem Y0:typeLookup (.type "zip") "__length_hint__"=pure none:=by rw[p5,qd];kernel_rfl
end F
section
variable{prog:Program}{w:World}{A:Around}{s:Shared}{R:Result->Shared->Prop}{z TI TO i1 i2 l1 l2 base S:Addr}{xs ys:Array Value}
structure oi(z TI TO i1 i2 l1 l2 base S:Addr):Prop where
 n1:z≠S
 n2:TI≠S
 n3:TO≠S
 n4:i1≠S
 n5:i2≠S
 n6:l1≠S
 n7:l2≠S
 n8:S<base
theorem Pb(H:A.handled=none)(D:ZipApart z TI TO i1 i2 l1 l2)(L:m5 z TI TO i1 i2 l1 l2 base)(O:oi z TI TO i1 i2 l1 l2 base S)(U:min xs.size ys.size<=sizeLine)(res:Value):
  ∀(m k:Nat) (s:Shared) (c:Nat),min xs.size ys.size - k=m->k<=min xs.size ys.size->ZS z TI TO i1 i2 l1 l2 base xs ys k s.heap->s.heap.get? S=some {cls:=.type "list",dict:=none,data:=.seq (fL base k) c,slots:= #[]}->
  (∀h' X,(∀(j:Nat) x y,xs[j]?=some x->ys[j]?=some y->IsPair h' (base+j) x y)->h'.get? S=some {cls:=.type "list",dict:=none,data:=.seq (fL base (min xs.size ys.size)) X,slots:= #[]}->
   (∀b o,b≠S->b≠z->b≠TO->b≠i1->b≠i2->s.heap.get? b=some o->h'.get? b=some o)->R (.ok (.ret res)) {s with heap:=h'})->
  codeAny (model prog w) A (.builtin "list.extend.loop" ⟨[.ref S,.ref z,res],[]⟩) R s:=by
 have lo:∀(c j:Nat),c<base->base+j≠c:=λc j hc e=>absurd (dj hc (lK base j)) (by rw[e];exact gu _);intro m;induction m with
 |zero=>
  intro k s c I J i r t;have f:k=min xs.size ys.size:=ω
  refine ji PySem.F.entry_extend_loop ?_;rw[j4 vh _];show wpAny _ A.in1 (pyNext (.ref z)>>=_) _ _ s;refine ai (Y4 (A:=A.in1) H D i f λh' a=>?_);refine aK (t h' c (λj x y E G=>?_) ?_ λb o u l n p q e=>a b o l n p q e)
  .have K:j<k:=by
    have V:=(zB.mp E).1;have W:=(zB.mp G).1;omega
   exact a _ _ (lo _ _ L.z) (lo _ _ L.to) (lo _ _ L.i1) (lo _ _ L.i2) (i.old j x y K E G)
  .rw[<-f]
   exact a _ _ O.n1.symm O.n3.symm O.n4.symm O.n5.symm r
 |succ m M=>
  intro k s c I J i r t;have v:k<min xs.size ys.size:=ω
  have N:xs[k]?=some (xs[k]' ω):=gw _;have P:ys[k]?=some (ys[k]' ω):=gw _;refine ji PySem.F.entry_extend_loop ?_;rw[j4 vh _];show wpAny _ A.in1 (pyNext (.ref z)>>=_) _ _ s;refine ai (Y5 (A:=A.in1) D L i N P λh' B a=>?_);have g:=a _ _ O.n1.symm O.n3.symm O.n4.symm O.n5.symm r;show wpAny _ A.in1 (updateSeq S (·.push (.ref (base+k)))>>=_) _ _ _;refine ai ?_;have h:∀b o,b≠S->h'.get? b=some o->(h'.update S (Obj.mapSeq (·.push (.ref (base+k))))).get? b=some o:=λb o Q e=>(nW _ _ (Ne.symm Q)).trans e;have C:=j6 (Obj.mapSeq (·.push (.ref (base+k)))) g rfl;have d:∃n',(h'.update S (Obj.mapSeq (·.push (.ref (base+k))))).get? S=some {cls:=.type "list",dict:=none,data:=.seq ((fL base k).push (.ref (base+k))) n',slots:= #[]}:=⟨_,C⟩;obtain⟨n',d⟩:=d;rw[<-V_] at d;refine rS g rfl (aK ⟨kM vh _,M (k+1) _ n' ω v (B.ax h (pY ..) O.n1 O.n2 O.n3 O.n4 O.n5 O.n6 O.n7 O.n8) d λh'' X Y Z T=>?_⟩)
   (by rw[Cw];omega) (by show((fL base k).push _).size<=sizeLine+1;rw[Array.size_push,Cw];omega)
  .exact t h'' X Y Z λb o u l n p q e=>T b o u l n p q (h b o u (a b o l n p q e))
theorem Gj(n:A.handled=none)(D:ZipApart z TI TO i1 i2 l1 l2)(L:m5 z TI TO i1 i2 l1 l2 base)(O:oi z TI TO i1 i2 l1 l2 base S)(p:min xs.size ys.size<=sizeLine)(res:Value)(c₀:Nat)
  (i:ZS z TI TO i1 i2 l1 l2 base xs ys 0 s.heap)(k:s.heap.get? S=some {cls:= .type "list",data:= .seq #[] c₀})
  (r:∀h' G,(∀(j:Nat) x y,xs[j]? =some x->ys[j]? =some y->IsPair h' (base+j) x y)->h'.get? S=some {cls:= .type "list",dict:=none,data:= .seq (fL base (min xs.size ys.size)) G,slots:= #[]}->
   (∀b o,b≠S->b≠z->b≠TO->b≠i1->b≠i2->s.heap.get? b=some o->h'.get? b=some o)->R (.ok (.ret res)) {s with heap:=h'}):
  wpAny (model prog w) A.in1 (Builtin.List.listExtendWith (.ref S) (.ref z) res)
   (λfin s'=>match fin with| .done f=>R (.ok f) s'| .again G=>G.quiet=true/\codeAny (model prog w) A G R s') (λe s'=>R (.error e) s') s:=by
 have d:IsZip s.heap z TI TO .none:=by
  rcases i.zip with⟨_,q⟩|⟨e,_⟩
  .exact q
  .exact absurd e (gu _)
 have h:s.TypeIs (.ref z) "zip":=⟨_,d,rfl⟩
 unfold Builtin.List.listExtendWith
 refine ai (p8 h ?_)
 have h1:Builtin.List.listSameRef (.ref S) (.ref z)=false:=by simp[Builtin.List.listSameRef,O.n1.symm]
 have h2:(Value.type "zip" ==Value.type "list")=false:=δ
 have t:(Value.type "zip" ==Value.type "tuple")=false:=δ
 simp only[h1,h2,t,Bool.or_false,j5,gS]
 refine ai (wpAny_pyIter_zip d ?_)
 refine ai (fV ?_)
 unfold Builtin.List.listLengthHint
 refine ai (wpAny_specialOf h F.Y3 ?_)
 show wpAny _ A.in1 (specialOf (Value.ref z) (Str.ofString "__length_hint__")>>=_) _ _ _
 refine ai (wpAny_specialOf h F.Y0 ?_)
 refine aK ?_
 show wpAny _ A.in1 (rule "list.extend.makes-room">>=λ_=>Builtin.List.listTouch (.ref S)>>=λ_=>
  again (.builtin "list.extend.loop" ⟨[.ref S,.ref z,res],[]⟩)) _ _ _
 refine ai (lM ?_)
 refine ai ?_
 show wpAny _ A.in1 (updateSeq S (·.push .none)>>=λ_=>updateSeq S (·.pop)) _ _ _
 refine ai (rS k rfl ?_)
 have a:=j6 (Obj.mapSeq (·.push Value.none)) k rfl
 refine rS (hz:=by seq_fits) a rfl ?_
 have c:=j6 (Obj.mapSeq (·.pop)) a rfl
 have g:∀b o,b≠S->s.heap.get? b=some o->((s.heap.update S (Obj.mapSeq (·.push Value.none))).update S (Obj.mapSeq (·.pop))).get? b=some o:=
  λb o l e=>(nW _ _ (Ne.symm l)).trans ((nW _ _ (Ne.symm l)).trans e)
 refine aK ⟨kM vh _,Pb n D L O p res _ 0 _ _ rfl (b_ _) (i.ax g (by rw[pY,pY]) O.n1 O.n2 O.n3 O.n4 O.n5 O.n6 O.n7 O.n8) c λh' G H I u=> ?_⟩
 exact r h' G H I λb o m v B C E e=>u b o m v B C E (g b o m e)
theorem SJ(h:A.handled=none)(D:ZipApart z TI TO i1 i2 l1 l2)(L:m5 z TI TO i1 i2 l1 l2 base)(O:oi z TI TO i1 i2 l1 l2 base S)(i:min xs.size ys.size<=sizeLine)
  (k:ZS z TI TO i1 i2 l1 l2 base xs ys 0 s.heap)(d:s.heap.get? S=some {cls:= .type "list",data:= .seq #[]})
  (l:∀h' u,(∀(j:Nat) x y,xs[j]? =some x->ys[j]? =some y->IsPair h' (base+j) x y)->h'.get? S=some {cls:= .type "list",dict:=none,data:= .seq (fL base (min xs.size ys.size)) u,slots:= #[]}->
   (∀b o,b≠S->b≠z->b≠TO->b≠i1->b≠i2->s.heap.get? b=some o->h'.get? b=some o)->R (.ok (.ret .none)) {s with heap:=h'}):
  wpAny (model prog w) A.in1 (Builtin.«list.__init__» ⟨[.ref S,.ref z],[]⟩)
   (λfin s'=>match fin with| .done f=>R (.ok f) s'| .again u=>u.quiet=true/\codeAny (model prog w) A u R s') (λe s'=>R (.error e) s') s:=by
 show wpAny _ A.in1 (do let old <-Builtin.List.listItems (.ref S);Builtin.List.listUpdate (.ref S) (λ_=> #[]);letGo old.toList.reverse;Builtin.List.listExtendWith (.ref S) (.ref z) .none) _ _ s
 refine ai ?_
 unfold Builtin.List.listItems
 refine ai (rP d rfl (aK ?_))
 show wpAny _ A.in1 (updateSeq S (λ_=> #[])>>=λ_=>letGo (#[]:Array Value).toList.reverse>>=λ_=>Builtin.List.listExtendWith (.ref S) (.ref z) .none) _ _ s
 refine ai (rS d rfl ?_)
 have a:=j6 (Obj.mapSeq (λ_=>(#[]:Array Value))) d rfl
 have c:∀b o,b≠S->s.heap.get? b=some o->(s.heap.update S (Obj.mapSeq (λ_=>(#[]:Array Value)))).get? b=some o:=
  λb o m e=>(nW _ _ (Ne.symm m)).trans e
 refine ai (wpAny_letGo ?_)
 refine Gj h D L O i .none _ (k.ax c (pY ..) O.n1 O.n2 O.n3 O.n4 O.n5 O.n6 O.n7 O.n8) a λh' u v B n=> ?_
 exact l h' u v B λb o g p q r t e=>n b o g p q r t (c b o g e)
end
section
variable{prog:Program}{w:World}{A:Around}{E:aV}{s:Shared}
theorem SK{l1 l2:Addr}{xs ys:Array Value}{Q:aV}(q:A.handled=none)(d:s.heap.IsList l1 xs)(f:s.heap.IsList l2 ys)(r:min xs.size ys.size<=sizeLine)
  (t:∀h' K,(∀(j:Nat) x y,xs[j]?=some x->ys[j]?=some y->IsPair h' (s.heap.objs.size+6+j) x y)->
   h'.get? (s.heap.objs.size+5)=some {cls:=.type "list",dict:=none,data:=.seq (fL (s.heap.objs.size+6) (min xs.size ys.size)) K,slots:= #[]}->
   (∀b o,s.heap.get? b=some o->h'.get? b=some o)->Q (.ref (s.heap.objs.size+5)) {s with heap:=h'}):
  wpAny (model prog w) A (call (.type "zip") [.ref l1,.ref l2]) (λz a=>wpAny (model prog w) A (call (.type "list") [z]) Q E a) E s:=by
 have u: @LT.lt Nat _ l1 s.heap.objs.size:=by obtain⟨_,e,_⟩:=d;exact aW e
 have v: @LT.lt Nat _ l2 s.heap.objs.size:=by obtain⟨_,e,_⟩:=f;exact aW e
 refine call_zip_2 d f λc M h i k l J m=>?_;have D:ZipApart (s.heap.objs.size+4) (s.heap.objs.size+2) (s.heap.objs.size+3) s.heap.objs.size (s.heap.objs.size+1) l1 l2:=by
  constructor<;>first|(show(_:Nat)<(_:Nat);omega)|(intro e;have n: @Eq Nat _ _:=e;omega)
 have L:m5 (s.heap.objs.size+4) (s.heap.objs.size+2) (s.heap.objs.size+3) s.heap.objs.size (s.heap.objs.size+1) l1 l2 (s.heap.objs.size+6):=by
  constructor<;>first|(show(_:Nat)<(_:Nat);omega)|(intro e;have n: @Eq Nat _ _:=e;omega)
 have O:oi (s.heap.objs.size+4) (s.heap.objs.size+2) (s.heap.objs.size+3) s.heap.objs.size (s.heap.objs.size+1) l1 l2 (s.heap.objs.size+6) (s.heap.objs.size+5):=by
  constructor<;>first|(show(_:Nat)<(_:Nat);omega)|(intro e;have n: @Eq Nat _ _:=e;omega)
 refine callType_codes (Q₁:=λobj a=>obj=.ref (s.heap.objs.size+5)/\a={s with heap:=c.push {cls:=.type "list",data:=.seq #[]}}) PySem.F.called_list (PySem.F.typeCall_list_1 _) PySem.F.entry_list_init
  (code_list_new _ ⟨by show Value.ref c.objs.size=_;rw[J],rfl⟩) λobj a g=>?_
 obtain⟨rfl,rfl⟩:=g;have p:(c.push {cls:=.type "list",data:=.seq #[]}).get? (s.heap.objs.size+5)=some {cls:=.type "list",data:=.seq #[]}:=by rw[<-J];exact cS _ rfl
 have B:ZS (s.heap.objs.size+4) (s.heap.objs.size+2) (s.heap.objs.size+3) s.heap.objs.size (s.heap.objs.size+1) l1 l2 (s.heap.objs.size+6) xs ys 0 (c.push {cls:=.type "list",data:=.seq #[]}):=
  ⟨.inl ⟨rfl,bu _ M⟩,bu _ h,⟨_,_,bu _ i⟩,k.at λo e=>bu _ e,l.at λo e=>bu _ e,
   d.at λo e=>bu _ (m _ o e),f.at λo e=>bu _ (m _ o e),by rw[gU,J],λj x y C=>absurd C (Nat.not_lt_zero _)⟩
 refine⟨⟨_,p,rfl⟩,PySem.F.args_list_init_2 _ _,SJ (A:=A.in1) q D L O r B p λh' K N P G=>⟨rfl,t h' K N P λb o e=>?_⟩⟩;have H: @LT.lt Nat _ b s.heap.objs.size:=aW e;have ne:∀j:Nat,b≠s.heap.objs.size+j:=λj z=>by have I: @Eq Nat b (s.heap.objs.size+j):=z;omega
 exact G b o (ne 5) (ne 4) (ne 3) (ne 0) (ne 1) (bu _ (m b o e))
end
end ZL
end PySem
section
open PySem PySem.Spec PyProof.Rows
namespace L2
noncomputable def dI:List (Str×NameKind)->Ap
 |[]=>[]
 |(n,k)::r=>if (k==NameKind.free)=true then n::dI r else dI r
def gm(env:Env):List (Str×NameKind)->List (Str×Addr)->List (Str×Addr)
 |[],acc=>acc
 |(n,k)::r,acc=>if (k==NameKind.free)=true then gm env r ((n,(env.cells.lookup n).getD 0)::acc) else gm env r acc
theorem An{env:Env}{f:(Str×NameKind)->List (Str×Addr)->Sem (ForInStep (List (Str×Addr)))}
  (h1:∀n k cs c,(k==NameKind.free)=true->env.cells.lookup n=some c->f (n,k) cs=pure (.yield ((n,c)::cs)))(h2:∀n k cs,(k==NameKind.free)=false->f (n,k) cs=pure (.yield cs)):
  ∀(names:List (Str×NameKind)) (acc:List (Str×Addr)),(∀n∈dI names,∃c,env.cells.lookup n=some c)->forIn names acc f=pure (gm env names acc)
 |[],acc,_=>by rw[forIn_nil];rfl
 |(n,k)::r,acc,h=>by
  rw[forIn_cons];cases e:(k==NameKind.free) with
  |true=>
   have b:dI ((n,k)::r)=n::dI r:=by show(if (k==NameKind.free)=true then n::dI r else dI r)=_;rw[aB e]
   obtain⟨c,hc⟩:=h n (by rw[b];exact bw);rw[h1 n k acc c e hc,pure_bind];show forIn r ((n,c)::acc) f=_;rw[An h1 h2 r _ λm d=>h m (by rw[b];exact bq _ d)];have a:gm env ((n,k)::r) acc=gm env r ((n,(env.cells.lookup n).getD 0)::acc):=by
    show(if (k==NameKind.free)=true then _ else _)=_;rw[aB e]
   rw[a,hc];rfl
  |false=>
   have b:dI ((n,k)::r)=dI r:=by show(if (k==NameKind.free)=true then n::dI r else dI r)=_;rw[av (by rw[e];decide)]
   rw[h2 n k acc e,pure_bind];show forIn r acc f=_;rw[An h1 h2 r _ λm d=>h m (by rw[b];exact d)];have a:gm env ((n,k)::r) acc=gm env r acc:=by
    show(if (k==NameKind.free)=true then _ else _)=_;rw[av (by rw[e];decide)]
   rw[a]
theorem E5{scope:Scope}{env:Env}(h:∀n∈dI scope.names,∃c,env.cells.lookup n=some c):closureFor scope env=pure (gm env scope.names []):=by
 unfold closureFor;show(forIn scope.names [] _>>=_)=_;rw[An (env:=env) (λn k cs c a hc=>?_) (λn k cs a=>?_) scope.names [] h]
 .exact pure_bind _ _
 .dsimp only
  rw[aB a];unfold cellOf;rw[hc];rfl
 .dsimp only
  rw[av (by rw[a];decide)]
theorem sP{env:Env}{x:Str}:∀(names:List (Str×NameKind)) (acc:List (Str×Addr)),(∀n∈dI names,∃c,env.cells.lookup n=some c)->
  (gm env names acc).lookup x=if x∈dI names then env.cells.lookup x else acc.lookup x
 |[],acc,_=>by simp[gm,dI]
 |(n,k)::r,acc,h=>by
  cases e:(k==NameKind.free) with
  |true=>
   have b:dI ((n,k)::r)=n::dI r:=by show(if (k==NameKind.free)=true then n::dI r else dI r)=_;rw[aB e]
   obtain⟨c,hc⟩:=h n (by rw[b];exact bw);have a:gm env ((n,k)::r) acc=gm env r ((n,(env.cells.lookup n).getD 0)::acc):=by
    show(if (k==NameKind.free)=true then _ else _)=_;rw[aB e]
   rw[a,b,sP r _ λm f=>h m (by rw[b];exact bq _ f)];by_cases d:x∈dI r
   .rw[aB d,aB (bq _ d)]
   .rw[av d]
    by_cases g:x=n
    .subst g
     rw[aB bw,hc];simp
    .rw[av (by intro z;rcases bx.mp z with z|z;exact g z;exact d z)]
     have i:(x==n)=false:=by simpa using g
     rw[lookup_cons,i]
  |false=>
   have b:dI ((n,k)::r)=dI r:=by show(if (k==NameKind.free)=true then n::dI r else dI r)=_;rw[av (by rw[e];decide)]
   have a:gm env ((n,k)::r) acc=gm env r acc:=by
    show(if (k==NameKind.free)=true then _ else _)=_;rw[av (by rw[e];decide)]
   rw[a,b,sP r _ λm f=>h m (by rw[b];exact f)]
structure gV(X:Cx)(scope:Scope)(aw:Ap):Prop where
 kind:scope.kind= .function
 Ir:∀y∈scope.names,y.2≠ .cell
 locs:∀y∈scope.names,y.2= .local->scope.names.lookup y.1=some .local
 sub:∀n∈dI scope.names,n∈aw
 free:∀n∈aw,scope.names.lookup n=some .free
 kinds:(aw.all λn=>X.env.kindOf n==some .cell||X.env.kindOf n==some .free)=true
theorem gV.aw{X:Cx}{scope:Scope}{fr:Ap}(S:gV X scope fr):∀n∈dI scope.names,X.env.kindOf n=some .cell\/X.env.kindOf n=some .free:=λn a=>by
 have h:=nP.mp S.kinds n (S.sub n a);rcases or_eq_true _ _▸h with h|h
 .exact .inl (eq_of_beq h)
 .exact .inr (eq_of_beq h)
theorem xF{x:Str}:∀{names:List (Str×NameKind)},(x,NameKind.free)∈names->x∈dI names
 |(n,k)::r,h=>by
  unfold dI;rcases bx.mp h with e|e
  .injection e with a b
   subst a b;rw[aB (by rfl)];exact bw
  .split
   .exact bq _ (xF e)
   .exact xF e
theorem JA{env:Env}{x:Str}:∀{names:List (Str×NameKind)} {k:NameKind},(names.map λ(n,k)=>if (k==NameKind.free&&env.scope.kind== .function&&env.kindOf n==some .cell) then (n,NameKind.cell) else (n,k)).lookup x=some k->
  ∃f,names.lookup x=some f/\(k=f\/(f=.free/\k=.cell))
 |[],k,h=>by simp at h
 |(n,g)::r,k,h=>by
  rw[cM] at h;by_cases b:(x==n)=true
  .by_cases hc:(g==NameKind.free&&env.scope.kind== .function&&env.kindOf n==some .cell)=true
   .dsimp only at h
    rw[aB hc,lookup_cons,b] at h;have e:k=.cell:=by injection h with h;exact h.symm
    have c:g=.free:=by
     have:=(fX _ _▸(fX _ _▸hc).1).1;exact eq_of_beq this
    exact⟨g,by rw[lookup_cons,b],.inr ⟨c,e⟩⟩
   .dsimp only at h
    rw[av hc,lookup_cons,b] at h;injection h with h;exact⟨g,by rw[lookup_cons,b],.inl h.symm⟩
  .have a:(x==n)=false:=by simpa using b
   have h':(List.map (λ(n,k)=>if (k==NameKind.free&&env.scope.kind== .function&&env.kindOf n==some .cell) then (n,NameKind.cell) else (n,k)) r).lookup x=some k:=by
    by_cases hc:(g==NameKind.free&&env.scope.kind== .function&&env.kindOf n==some .cell)=true
    .dsimp only at h;rw[aB hc,lookup_cons,a] at h;exact h
    .dsimp only at h;rw[av hc,lookup_cons,a] at h;exact h
   obtain⟨f,c,d⟩:=JA h';exact⟨f,by rw[lookup_cons,a];exact c,d⟩
theorem Jz{env:Env}{x:Str}:∀{names:List (Str×NameKind)},names.lookup x=some .free->
  (names.map λ(n,k)=>if (k==NameKind.free&&env.scope.kind== .function&&env.kindOf n==some .cell) then (n,NameKind.cell) else (n,k)).lookup x=some .cell\/
  (names.map λ(n,k)=>if (k==NameKind.free&&env.scope.kind== .function&&env.kindOf n==some .cell) then (n,NameKind.cell) else (n,k)).lookup x=some .free
 |[],h=>by simp at h
 |(n,d)::r,h=>by
  rw[cM]
  by_cases b:(x==n)=true
  .rw[lookup_cons,b] at h
   injection h with h
   subst h
   by_cases hc:(NameKind.free==NameKind.free&&env.scope.kind== .function&&env.kindOf n==some .cell)=true
   .left;dsimp only;rw[aB hc,lookup_cons,b]
   .right;dsimp only;rw[av hc,lookup_cons,b]
  .have a:(x==n)=false:=by simpa using b
   rw[lookup_cons,a] at h
   have c:=Jz (env:=env) h
   by_cases hc:(d==NameKind.free&&env.scope.kind== .function&&env.kindOf n==some .cell)=true
   .dsimp only;rw[aB hc,lookup_cons,a];exact c
   .dsimp only;rw[av hc,lookup_cons,a];exact c
structure CP where
 C:Addr
 s:Shared
 H:Hp
 ae:aZ
 fp:D1
def cy(X:Cx)(NC:Ap)(scope:Scope)(c:CP):Cx where
 prog:=X.prog
 w:=X.w
 K:=X.K
 mg:=X.mg
 base:=X.base
 A:=X.A
 N:=NC
 s₀:=c.s
 H₀:=c.H
 env:=compEnvC scope (gm X.env scope.names []) c.C X.env
 outer:=X.stack
 stack:=X.stack
 ex:=c.fp
 fn:=λ_=>false
 calm:=true
 pn:=X.pn++c.ae
 xe:=λ_ _=>False
variable{X:Cx}
section
variable{scope:Scope}{aw:Ap}{NC:Ap}{ae:aZ}{σ iU:St}{H H':Hp}{s s':Shared}{fp:D1}{C:Addr}
theorem gV.has(S:gV X scope aw)(ok:X.Ok):∀n∈dI scope.names,∃c,X.env.cells.lookup n=some c:=λn a=>ok.has n (S.aw n a)
theorem gV.cells(S:gV X scope aw)(ok:X.Ok){x:Str}{c:Addr}(h:(gm X.env scope.names []).lookup x=some c):x∈dI scope.names/\X.env.cells.lookup x=some c:=by
 rw[sP scope.names [] (S.has ok)] at h;by_cases a:x∈dI scope.names
 .rw[aB a] at h;exact⟨a,h⟩
 .rw[av a] at h;simp at h
theorem Nz(S:gV X scope aw)(hc:X.calm=true)(I:Inv X ae σ H s)(f:∀b∈fp,iH X ae H b/\b<s.heap.objs.size)(m:C=s.heap.objs.size):(cy X NC scope ⟨C,s,H,ae,fp⟩).Ok where
 mod:=I.ok.mod
 kind:=S.kind
 glob:=I.ok.glob
 blt:=I.ok.blt
 above:=by show s.heap.objs.size<=C;rw[m];exact aJ _
 inj:=λx y c h1 h2=>I.ok.inj x y c (S.cells I.ok h1).2 (S.cells I.ok h2).2
 has:=λx p=>by
  have i:∃k,(relabel scope X.env).names.lookup x=some k/\(k= .cell\/k= .free):=by
   rcases p with h|h
   .exact⟨_,h,.inl rfl⟩
   .exact⟨_,h,.inr rfl⟩
  obtain⟨k,h,hk⟩:=i
  obtain⟨r,q,d⟩:=JA h
  have n:=qa q
  have j:r= .free:=by
   rcases d with d|⟨d,_⟩
   .rcases hk with hk|hk
    .exact absurd (d▸hk:r= .cell) (S.Ir _ n)
    .exact d▸hk
   .exact d
  subst j
  have g:=xF n
  obtain⟨c,l⟩:=S.has I.ok x g
  exact⟨c,by show(gm X.env scope.names []).lookup x=some c;rw[sP scope.names [] (S.has I.ok),aB g];exact l⟩
 ou:=λx c h=>nomatch h
 hd:=λ_=>I.ok.hd hc
 frames:=I.ok.frames
 stk:= .inl rfl
 wD:=λb a=>⟨λz=>by have:=(f b a).2;rw[z] at this;exact absurd (m▸this) (gu _),λx c h=>(f b a).1.2.2.2.2.1 x c (S.cells I.ok h).2⟩
 bs:=I.bs
 kg:=d7 I.ok.kg I.sz
 o8:=λb o e a=>by
  rcases (f b a).1.2.2.2.1 with z|z
  .exact I.ok.o8 b o e z
  .exact absurd (dj (aW e) (d7 I.ok.kg z)) (gu _)
 qH:=λb a z=>by
  rcases bx.mp (I.rB b z) with e|e
  .exact(f b a).1.2.1 e
  .exact(f b a).1.2.2.1 e
 i_:=I.stack
 ly:=I.CL
def stC(own:Ap)(ix:Dx)(σ:St):St:=own.map (λ_=>none)++ix.map λi=>(σ[i]?).join
theorem Xx{own aw:Ap}{ix:Dx}{σ:St}{b:Ap}(c:ix.map (λi=>b[i]?)=aw.map some){j:Nat}{x:Str}{v:V}(h1:(own++aw)[j]?=some x)(h2:(stC own ix σ)[j]?=some (some v)):
  x∈aw/\∃i:Nat,b[i]?=some x/\σ[i]?=some (some v):=by
 have hl:ix.length=aw.length:=by have:=bM List.length c;simpa using this
 unfold stC at h2;by_cases d:j<own.length
 .rw[iG (by simpa using d),bz] at h2
  cases e:own[j]? with
  |none=>rw[e] at h2;simp at h2
  |some o=>rw[e] at h2;simp at h2
 .rw[sf (by simpa using d),bz,aM] at h2
  rw[sf ω] at h1;have a:(ix.map (λi=>b[i]?))[j - own.length]?=(aw.map some)[j - own.length]? :=by rw[c]
  rw[bz,bz,h1] at a;cases e:ix[j - own.length]? with
  |none=>rw[e] at h2;simp at h2
  |some i=>
   rw[e] at h2 a;simp only[map_some,Option.some.injEq] at h2 a;refine⟨cF h1,i,a,?_⟩;cases q:σ[i]? with
   |none=>rw[q] at h2;simp at h2
   |some o=>rw[q] at h2;simp at h2;rw[h2]
theorem Xy{own aw:Ap}{ix:Dx}{σ:St}{a:Ap}(b:ix.map (λi=>a[i]?)=aw.map some):(stC own ix σ).length=(own++aw).length:=by
 have hl:ix.length=aw.length:=by have:=bM List.length b;simpa using this
 unfold stC;simp[hl]
theorem Ny{own:Ap}{ix:Dx}{a:Heap}{G:Nat}(S:gV X scope aw)(hc:X.calm=true)(I:Inv X ae σ H s)(J:∀b∈fp,iH X ae H b/\b<s.heap.objs.size)(w:C=s.heap.objs.size)
  (E:ix.map (λi=>X.N[i]?)=aw.map some)(y:∃m,a.Ns C m)(g:∀b o,s.heap.get? b=some o->a.get? b=some o):
  Inv (cy X (own++aw) scope ⟨C,s,H,ae,fp⟩) [] (stC own ix σ) H {s with heap:=a,toks:=G}:=by
 obtain⟨m,K⟩:=y;refine⟨Nz S hc I J w,rfl,I.bare,Un.kept g,⟨m,K,λj x v h1 h2 U=>?_⟩,λx c h=>?_,?_,λx c h=>?_,λp L=>?_,I.ar.kept g,Xy E⟩
 .obtain⟨M,i,O,P⟩:=Xx E h1 h2
  have f:=S.free x M;have k:=xF (qa f);have t:=S.aw x k;obtain⟨m0,_,hl⟩:=I.loc;have A:qu X.env.scope x:=by rcases t with z|z;exact .inr (.inl z);exact .inr (.inr z)
  obtain⟨u,r,l⟩:=hl i x v O P A;refine⟨u,r,?_⟩;rcases l with⟨F,_⟩|⟨_,c,Q,R⟩
  .rcases t with z|z
   .rw[F] at z;cases z
   .rw[F] at z;cases z
  .refine .inr ⟨Jz (env:=X.env) f,c,?_,?_⟩
   .show(gm X.env scope.names []).lookup x=some c
    rw[sP scope.names [] (S.has I.ok),aB k];exact Q
   .obtain⟨o,B,hd⟩:=R
    exact⟨o,g _ _ B,hd⟩
 .obtain⟨_,e⟩:=S.cells I.ok h
  obtain⟨v,o,B,hd⟩:=I.cell x c e;exact⟨v,o,g _ _ B,hd⟩
 .show H C=none
  rw[w];exact I.ar.fresh (aJ _)
 .exact I.gA x c (S.cells I.ok h).2
 .have D:p∈X.pn++ae:=by
   have:p∈(X.pn++ae)++[]:=L;rwa [lN] at this
  obtain⟨e,n,ne,T,d⟩:=I.pin p D;refine⟨g _ _ e,n,?_,λz=>?_,d⟩
  .show p.1≠C
   rw[w];exact bG (aW e)
  .rcases bx.mp (I.rB p.1 z) with q|q
   .exact ne q
   .exact T q
theorem Nu{NC:Ap}(S:gV X scope aw)(I:Inv X ae σ H s)(d:∀b∈fp,iH X ae H b/\b<s.heap.objs.size)(e:C=s.heap.objs.size){b:Addr}(a:b∈fp)(f:H' b=none):iH (cy X NC scope ⟨C,s,H,ae,fp⟩) [] H' b:=by
 refine⟨f,?_,λz=>?_,.inl a,λx c h=>(d b a).1.2.2.2.2.1 x c (S.cells I.ok h).2,λp g=>(d b a).1.2.2.2.2.2 p ?_⟩
 .show b≠C
  rw[e];exact bG (d b a).2
 .rcases bx.mp (I.rB b z) with q|q
  .exact(d b a).1.2.1 q
  .exact(d b a).1.2.2.1 q
 .have:p∈(X.pn++ae)++[]:=g
  rwa [lN] at this
theorem Nt{NC:Ap}(I:Inv X ae σ H s)(a:∀b∈fp,iH X ae H b/\b<s.heap.objs.size)(J:Inv (cy X NC scope ⟨C,s,H,ae,fp⟩) [] iU H' s'):Inv X ae σ H' s':=
 I.Ah J.os J.base J.ar J.bare λb c=>⟨(a b c).1.2.2.2.1,(a b c).1.2.1,(a b c).1.2.2.2.2.1,(a b c).1.2.2.2.2.2⟩
theorem Nv{h':Heap}(I:Inv X ae σ H s)(a:H C=none)(h1:C≠X.env.locals)(h2:X.s₀.heap.objs.size<=C)(d:∀x c,X.env.cells.lookup x=some c->c≠C)(f:∀p∈X.pn++ae,p.1≠C)(g:SameBut C s.heap h'):
 Inv X ae σ H {s with heap:=h'}:=I.turned (t':=s.toks) (λb o h e=>(g.2 b h).trans e) a h1 (.inr h2) d f
end
inductive iI:St->St->Prop
 |nil:iI [] []
 |own {o:Option V} {a b:St}:iI a b->iI (none::a) (o::b)
 |keep {o:Option V} {a b:St}:iI a b->iI (o::a) (o::b)
theorem iI.len:∀{a b:St},iI a b->b.length=a.length
 |_,_,.nil=>rfl
 |_,_,.own h=>bM (·+1) h.len
 |_,_,.keep h=>bM (·+1) h.len
theorem iI.get:∀{a b:St},iI a b->∀(i:Nat) v,a[i]?=some (some v)->b[i]?=some (some v)
 |_,_,.nil,i,v,e=>by simp at e
 |_,_,.own h,0,v,e=>by simp at e
 |_,_,.own h,i+1,v,e=>by
  rw[Dq] at e ⊢;exact h.get i v e
 |_,_,.keep h,0,v,e=>by simpa using e
 |_,_,.keep h,i+1,v,e=>by
  rw[Dq] at e ⊢;exact h.get i v e
theorem iI.refl:∀a:St,iI a a
 |[]=>.nil
 |_::r=>.keep (iI.refl r)
inductive jE(X:Cx):DD->TT->Prop
 |nil:jE X [] (λ_ H Q=>Q true H)
 |one {c:Expr} {t:TT}:PT X c t->jE X [c] t
theorem jE.run{X:Cx}{ifs:DD}{t:TT}(h:jE X ifs t){ae:aZ}{s:Shared}{σ:St}{H:Hp}{Q:Bool->Hp->Prop}(I:Inv X ae σ H s)(a:t σ H Q):
  wpAny (model X.prog X.w) X.A (forIn ifs true λc r=>if r=true then do let ok <-isTrue c X.env (eval c X.env);pure (ForInStep.yield ok) else pure (ForInStep.yield r)) (TP X ae σ Q) X.xe s:=by
 cases h with
 |nil=>exact wpAny_tests_nil ⟨H,I,a⟩
 |one h=>exact wpAny_tests_one (h ae s σ H Q I a)
def sN(iU:St)(acc:Addr)(g:TG)(tt:TT)(te:TE)(x:V)(ys:Bn)(H:Hp)(N:Bn->Hp->Prop):Prop:=
 g x iU H λσ2 H2=>iI iU σ2/\tt σ2 H2 λb H3=>if b=true then te σ2 H3 λy H4=>H4 acc=some (.lst ys)/\ys.length<sizeLine/\N (ys++[y]) (ax H4 acc (.lst (ys++[y]))) else N ys H3
def oq(J:It)(iU:St)(acc:Addr)(g:TG)(tt:TT)(te:TE)(H:Hp)(Q:VK):Prop:=
 ∃W:Nat->Nat->Bn->Hp->Prop,(∃m,W 0 m [] H)/\∀i m ys H,W i m ys H->H acc=some (.lst ys)/\
  ((J.stop i H/\Q (.ref acc) H)\/(J.go i H/\∃N:Bn->Hp->Prop,(∀ys' H',N ys' H'->∃m',m'<m/\W (i+1) m' ys' H')/\∀x H',J.u6 i H x H'->sN iU acc g tt te x ys H' N))
def CU(own:Ap)(ix:Dx)(wi:TI)(g:CP->TG)(tt:CP->TT)(te:CP->TE):TE:=λσ H Q=>
 wi σ H λJ H1=>∀(c:CP) (acc:Addr),H1 acc=none->oq J (stC own ix σ) acc (g c) (tt c) (te c) (ax H1 acc (.lst [])) Q
section
variable{scope:Scope}{own aw:Ap}{ix:Dx}{tg elt iter:Expr}{ifs:DD}{pos:Pos}{wi:TI}{g:CP->TG}{tt:CP->TT}{te:CP->TE}
theorem Np{J:It}{it acc:Addr}{fp:D1}{E:Nat->Heap->Prop}{c:CP}{σ:St}{H:Hp}{s:Shared}{Q:VK}{R:Result->Shared->Prop}
  (hfp:c.fp=fp)(T:Turn X.prog X.w X.K tg J fp it E)(hg:PG (cy X (own++aw) scope c) tg (g c))(ht:jE (cy X (own++aw) scope c) ifs (tt c))(he:PE (cy X (own++aw) scope c) elt (te c))
  (j:∀b∈fp,∀H':Hp,H' b=none->iH (cy X (own++aw) scope c) [] H' b)
  (I:Inv (cy X (own++aw) scope c) [] (stC own ix σ) H s)(st:E 0 s.heap)(fr:∀b∈fp,H b=none)(h:oq J (stC own ix σ) acc (g c) (tt c) (te c) H Q)
  (hR:∀s' H',Inv (cy X (own++aw) scope c) [] (stC own ix σ) H' s'->Q (.ref acc) H'->R (.ok .next) s'):
  codeAny (model X.prog X.w) X.A (.compLoop (.ListComp elt [⟨tg,iter,ifs,0⟩] scope pos) 0 (.ref it) (.ref acc) (cy X (own++aw) scope c).env) R s:=by
 obtain⟨W,⟨m0,w0⟩,turn⟩:=h
 refine codeAny_loop rfl (λn s'=>∃i ys H',Inv (cy X (own++aw) scope c) [] (stC own ix σ) H' s'/\E i s'.heap/\(∀b∈fp,H' b=none)/\W i n ys H') (λn L hI=> ?_) m0 ⟨0,[],H,I,st,fr,w0⟩
 obtain⟨i,ys,H1,I1,p,v,w1⟩:=hI
 show wpAny _ X.A ((compTurn (.ListComp elt [⟨tg,iter,ifs,0⟩] scope pos) 0 (.ref it) (.ref acc) (cy X (own++aw) scope c).env).onRaise (λx=>do noteFrame x (cy X (own++aw) scope c).env;theTreesLotGoes x)) _ _ L
 have k:∀{α:Type} {t:Sem α} {P:α->Shared->Prop} {s:Shared},wpAny (model X.prog X.w) X.A t P (λ_ _=>False) s->wpAny (model X.prog X.w) X.A t P (notedBy (model X.prog X.w) X.A (cy X (own++aw) scope c).env λe s'=>R (.error e) s') s:=
  λh=>jA h (λ_ _ q=>q) λ_ _ z=>z.elim
 refine wpAny_noted ?_
 rw[compTurn_list]
 obtain⟨ha,hw⟩:=turn i n ys H1 w1
 rcases hw with⟨stop,q⟩|⟨go,N,hN,step⟩
 .refine ai (vq (ai (k (aQ (T.done (cy X (own++aw) scope c) rfl rfl rfl rfl i [] L _ H1 (λ_ _=>False) I1 (λb f=>j b f H1 (v b f)) p stop) λr s2 ⟨M,I2⟩=> ?_))))
  subst M
  exact aK (hR s2 H1 I2 q)
 .refine ai (vq (ai (k (aQ (T.item (cy X (own++aw) scope c) rfl rfl rfl rfl i [] L _ H1 (λ_ _=>False) I1 (λb f=>j b f H1 (v b f)) p go) λr s2 ⟨u,M,h2⟩=> ?_))))
  subst M
  refine ai (k (aQ h2 λ_ s3 ⟨x,O,I3,r3,y3,l,S⟩=> ?_))
  have U:=I3.pinned (λb f=>j b f O (S b f)) (T.obj _ _ l)
  refine ai (k (aQ (hg _ s3 _ O x u _ U r3 (step x O y3)) λ_ s4 ⟨Y9,H4,I4,ks,q4⟩=> ?_))
  refine ai (k (aQ (ht.run I4 q4) λok s5 ⟨H5,V,F⟩=> ?_))
  have a:∀{B:Shared} {C:St} {m:Hp},Inv (cy X (own++aw) scope c) ([]++uJ fp s3.heap) C m B->E (i+1) B.heap/\∀b∈fp,m b=none:=λ {B C m} D=>
   ⟨T.keep _ _ _ l λb f o e=>(D.pin (b,o) (jx _ (jx _ (xG f e)))).1,λb f=>by
    obtain⟨o,e,d⟩:=T.obj _ _ l b f
    exact(D.pin (b,o) (jx _ (jx _ (xG f e)))).2.1⟩
  cases ok with
  |false=>
   rw[av δ] at F
   obtain⟨Y,Z,w5⟩:=hN _ _ F
   obtain⟨k1,k2⟩:=a V
   exact aK ⟨rfl,Y,Z,i+1,ys,H5,(V.u5).weak ks.len.symm ks.get,k1,k2,w5⟩
  |true=>
   rw[aB rfl] at F
   refine ai (ai (k (aQ (he _ s5 _ H5 _ V F) λy B ⟨G,m,D,r6,a6,l6,q6⟩=> ?_)))
   obtain⟨Y,Z,w6⟩:=hN _ _ q6
   obtain⟨k1,k2⟩:=a D
   refine ai (k (aQ (oY (X:=cy X (own++aw) scope c) _ B _ m (.ref acc) [G] (.ref acc) [y] (λ_ H7=>H7=ax m acc (.lst (ys++[G]))) D rfl (.cons r6 .nil) ⟨acc,ys,G,rfl,rfl,a6,l6,rfl⟩) λ_ s7 ⟨_,H7,I7,_,e7⟩=> ?_))
   subst e7
   obtain⟨k1,k2⟩:=a I7
   exact aK (aK ⟨rfl,Y,Z,i+1,ys++[G],_,(I7.u5).weak ks.len.symm ks.get,k1,k2,w6⟩)
structure zC(X:Cx)(ae:aZ)(C:Addr)(H:Hp):Prop where
 no:H C=none
 loc:C≠X.env.locals
 old:X.s₀.heap.objs.size<=C
 iZ:∀x c,X.env.cells.lookup x=some c->c≠C
 pin:∀p∈X.pn++ae,p.1≠C
theorem zC.inv{ae:aZ}{σ:St}{H:Hp}{s:Shared}{C:Addr}{h':Heap}(G:zC X ae C H)(I:Inv X ae σ H s)(a:SameBut C s.heap h'):Inv X ae σ H {s with heap:=h'}:=
 Nv I G.no G.loc G.old G.iZ G.pin a
theorem Fc{ae:aZ}{σ:St}{H:Hp}{s:Shared}{Q:VK}{L:Value->Addr->Result->Shared->Prop}{E:aV}{J:It}{it:Addr}{fp:D1}{M:Nat->Heap->Prop}
  (S:gV X scope aw)(hc:X.calm=true)(Z:ix.map (λi=>X.N[i]?)=aw.map some)
  (hg:∀c,PG (cy X (own++aw) scope c) tg (g c))(ht:∀c,jE (cy X (own++aw) scope c) ifs (tt c))(he:∀c,PE (cy X (own++aw) scope c) elt (te c))
  (I:Inv X ae σ H s)(T:Turn X.prog X.w X.K tg J fp it M)(st:M 0 s.heap)(W:∀b∈fp,iH X ae H b)
  (h:∀(c:CP) (acc:Addr),H acc=none->oq J (stC own ix σ) acc (g c) (tt c) (te c) (ax H acc (.lst [])) Q)
  (O:∀(acc C:Addr) s' H' m,Inv X ae σ H' s'->s'.heap.Ns C m->zC X ae C H'->Q (.ref acc) H'->L (.ref acc) C (.ok .next) s'):
  wpAny (model X.prog X.w) X.A (newList []) (λacc r=>wpAny (model X.prog X.w) X.A (newFunctionEnv scope X.env.globals (gm X.env scope.names []) [] X.env.qual none .none (some X.env)) (λl t=>
   codeAny (model X.prog X.w) X.A (.compStart (.ListComp elt [⟨tg,iter,ifs,0⟩] scope pos) 0 (.ref it) acc {l with scope:=relabel scope X.env}) (L acc l.locals) t) E r) E s:=by
 refine jB (wpAny_newFunctionEnv S.Ir (by intro y hy;simp at hy) (λa u B=> ?_) S.kind)
 dsimp only at u B ⊢
 have P:H s.heap.objs.size=none:=I.ar.fresh (aJ _)
 have n:Inv X ae σ (ax H s.heap.objs.size (.lst [])) {s with heap:=s.heap.push {cls:= .type "list",data:= .seq ([]:BM).toArray}}:=I.HW (its:=[]) (t':=s.toks) .nil (b_ _)
 generalize D:({s with heap:=s.heap.push {cls:= .type "list",data:= .seq ([]:BM).toArray}}:Shared)=f at n
 have F:f.heap=s.heap.push {cls:= .type "list",data:= .seq ([]:BM).toArray}:=by rw[<-D]
 have Y:∀b∈fp,b<s.heap.objs.size:=λb j=>by
  obtain⟨o,e,_⟩:=T.obj _ _ st b j
  exact aW e
 have sz:f.heap.objs.size=s.heap.objs.size+1:=by rw[F,gU]
 have k:∀b∈fp,iH X ae (ax H s.heap.objs.size (.lst [])) b/\b<f.heap.objs.size:=λb j=>
  ⟨⟨by rw[aY (bG (Y b j))];exact(W b j).1,(W b j).2⟩,by rw[sz];exact jh (Y b j)⟩
 have kp:∀b o,f.heap.get? b=some o->a.get? b=some o:=λb o e=>by
  refine B.extBut b o ?_ (bu _ (F▸e))
  rw[<-F]
  exact bG (aW e)
 have R:a.Ns f.heap.objs.size (λx=>([]:List (Str×Value)).reverse.lookup x):=by rw[F];exact u
 have J0:Inv (cy X (own++aw) scope ⟨f.heap.objs.size,f,ax H s.heap.objs.size (.lst []),ae,fp⟩) [] (stC own ix σ) (ax H s.heap.objs.size (.lst [])) {f with heap:=a,toks:=s.toks+0}:=
  Ny S hc n k rfl Z ⟨_,R⟩ kp
 have U:∀b∈fp,∀H':Hp,H' b=none->iH (cy X (own++aw) scope ⟨f.heap.objs.size,f,ax H s.heap.objs.size (.lst []),ae,fp⟩) [] H' b:=λb j H' hn=>Nu S n k rfl j hn
 have G:M 0 a:=T.keep _ _ _ st λb j o e=>kp b o (by rw[F];exact bu _ e)
 have loop:codeAny (model X.prog X.w) X.A (.compLoop (.ListComp elt [⟨tg,iter,ifs,0⟩] scope pos) 0 (.ref it) (.ref s.heap.objs.size) (cy X (own++aw) scope ⟨f.heap.objs.size,f,ax H s.heap.objs.size (.lst []),ae,fp⟩).env)
   (L (.ref s.heap.objs.size) f.heap.objs.size) {f with heap:=a,toks:=s.toks+0}:=by
  refine Np rfl T (hg _) (ht _) (he _) U J0 G (λb j=>(k b j).1.1) (h _ _ P) λs' H' V q=> ?_
  obtain⟨m,hm,_⟩:=V.loc
  refine O _ _ s' H' m (Nt n k V) hm ⟨V.free,mQ n.lt,n.sz,λx c e z=> ?_,λp hp z=> ?_⟩ q
  .obtain⟨v,q⟩:=n.cell x c e
   exact absurd (dj q.lt (by rw[z];exact aJ _)) (gu _)
  .exact absurd (dj (aW (n.pin p hp).1) (by rw[z];exact aJ _)) (gu _)
 have d:=loop
 rw[<-D] at d
 exact codeAny_compStart_list d (T.self _ 0 _ _ _ G d)
theorem IM(hi:PI X tg iter wi)
  (d:∀c,PG (cy X (own++aw) scope c) tg (g c))(f:∀c,jE (cy X (own++aw) scope c) ifs (tt c))(j:∀c,PE (cy X (own++aw) scope c) elt (te c))(S:gV X scope aw:=by exact⟨rfl,η,η,η,η,rfl⟩)(hc:X.calm=true:=by rfl)(k:ix.map (λi=>X.N[i]?)=aw.map some:=by rfl)(l:∀x,foldedSetIterable iter X.env x=pure x:=by intro _;rfl):
  PE X (.ListComp elt [⟨tg,iter,ifs,0⟩] scope pos) (CU own ix wi g tt te):=by
 intro ae s σ H Q I h;rw[eval_ListComp];refine wpAny_comprehension_free (use:=none) rfl l (E5 (S.has I.ok)) S.kind S.locs (aQ (hi ae s σ H _ I h) λv u h1=>aQ h1 λn w h2=>?_);obtain⟨it,fp,y,J,H2,e,o,T,a,z,p⟩:=h2;subst e;refine Fc S hc k d f j o T a z p λacc C s' H' m r t G q=>?_;exact⟨m,t,λh' b=>⟨.ref acc,H',G.inv r b,rfl,q⟩⟩
theorem IY{i:Nat}{x:Str}{pos' spos:Pos}(b:X.N.Nodup)(d:X.N[i]? =some x)(o:Loc X.env.scope x)(hi:PI X tg iter wi)
  (p:∀c,PG (cy X (own++aw) scope c) tg (g c))(r:∀c,jE (cy X (own++aw) scope c) ifs (tt c))(t:∀c,PE (cy X (own++aw) scope c) elt (te c))(S:gV X scope aw:=by exact⟨rfl,η,η,η,η,rfl⟩)(hc:X.calm=true:=by rfl)(u:ix.map (λi=>X.N[i]?)=aw.map some:=by rfl)(w:∀x,foldedSetIterable iter X.env x=pure x:=by intro _;rfl)
  (f:swapsWith (.ListComp elt [⟨tg,iter,ifs,0⟩] scope pos) (some (.Name x pos')) spos.line X.env=pure true:=by rfl)(y:autoParam (X.fn x=true\/X.env.scope.names.lookup x=some .local) Zw):
  PS X (.Assign [.Name x pos'] (.ListComp elt [⟨tg,iter,ifs,0⟩] scope pos) spos) (yN (CU own ix wi g tt te) (qL i)):=by
 intro ae s σ H D I h
 rw[exec_Assign_Name_used _ _ _ _ f]
 refine ai (vq (ai ?_))
 show wpAny _ X.A (do let _ <-comprehension (.ListComp elt [⟨tg,iter,ifs,0⟩] scope pos) scope X.env _ (newList []) false (eval iter X.env) (some (assign (.Name x pos') X.env))) _ _ s
 refine ai (jA (wpAny_comprehension_free (use:=some (assign (.Name x pos') X.env)) (Q:=λ_ s'=>SP X ae D .next s') rfl w (E5 (S.has I.ok)) S.kind S.locs
  (aQ (hi ae s σ H _ I h) λv R h1=>aQ h1 λz B h2=> ?_)) (λ_ s' E=>aK (aK E)) λ_ _ e=>e)
 obtain⟨it,fp,U,J,H2,e,F,T,j,V,K⟩:=h2
 subst e
 refine Fc S hc u p r t F T j V K λacc C s' H' m L M G q=> ?_
 show wpAny _ X.A (assign (.Name x pos') X.env (.ref acc)) _ _ _
 refine wpAny_assign_Name (Ld L b d o (v:= .ref acc) rfl (λB k ch=> ?_) y)
 obtain⟨a,O,P⟩:=ch
 have l:C≠a:=by
  rcases P with e|e
  .rw[e];exact G.loc
  .exact(G.iZ _ _ e).symm
 exact⟨m,M.sameBut O l,λh' n=>⟨_,H',G.inv k n,q⟩⟩
end
section
variable{iU:St}{acc:Addr}{g:TG}{tt:TT}{te:TE}{H:Hp}{Q:VK}
theorem Au{J:It}{n:Nat}(Pv:Nat->Bn->Hp->Prop)(h0:Pv 0 [] H)(d:∀i ys H,i<=n->Pv i ys H->H acc=some (.lst ys))(b:∀i ys H,i<n->Pv i ys H->J.go i H)(c:∀ys H,Pv n ys H->J.stop n H)
  (f:∀i ys H x H',i<n->Pv i ys H->J.u6 i H x H'->sN iU acc g tt te x ys H' (Pv (i+1)))(hd:∀ys H,Pv n ys H->Q (.ref acc) H):oq J iU acc g tt te H Q:=by
 refine⟨λi m ys H=>m=n - i/\i<=n/\Pv i ys H,⟨n,θ,b_ _,h0⟩,?_⟩;rintro i m ys H ⟨rfl,hi,p⟩;refine⟨d i ys H hi p,?_⟩;by_cases a:i<n
 .exact .inr ⟨b i ys H a p,Pv (i+1),λh H' j=>⟨n - (i+1),ω,rfl,a,j⟩,λx H' y=>f i ys H x H' a p y⟩
 .have e:i=n:=ω
  subst e;exact .inl ⟨c ys H p,hd ys H p⟩
theorem Zg{lo:Int}{n:Nat}(Pv:Nat->Bn->Hp->Prop)(h0:Pv 0 [] H)(b:∀i ys H,i<=n->Pv i ys H->H acc=some (.lst ys))
  (c:∀i ys H,i<n->Pv i ys H->sN iU acc g tt te (.int (lo+i)) ys H (Pv (i+1)))(hd:∀ys H,Pv n ys H->Q (.ref acc) H):oq (sy lo n) iU acc g tt te H Q:=
 Au Pv h0 b (λi ys H a _=>a) (λ_ _ _=>aJ _) (λi ys H x H' a p y=>by
  obtain⟨e,y⟩:=y;subst e y;exact c i ys _ a p) hd
theorem Zf{K:Frag}{a:Addr}{xs:Bn}(Pv:Nat->Bn->Hp->Prop)(h0:Pv 0 [] H)(c:∀i ys H,i<=xs.length->Pv i ys H->H acc=some (.lst ys))(hl:∀i ys H,i<=xs.length->Pv i ys H->bf K H a xs)
  (d:∀i ys H x,xs[i]?=some x->Pv i ys H->sN iU acc g tt te x ys H (Pv (i+1)))(hd:∀ys H,Pv xs.length ys H->Q (.ref acc) H):oq (su K a) iU acc g tt te H Q:=
 Au Pv h0 c (λi ys H b p=>⟨xs,xs[i],hl i ys H (gK b) p,by simp[b]⟩) (λys H p=>⟨xs,hl _ ys H (aJ _) p,aJ _⟩) (λi ys H x H' b p y=>by
  obtain⟨e,y⟩:=y;subst e;exact d i ys _ x (y xs (hl i ys _ (gK b) p)) p) hd
theorem Zh{K:Frag}{a:Addr}{xs:Bn}(Pv:Nat->Bn->Hp->Prop)(h0:Pv 0 [] H)(c:∀i ys H,i<=xs.length->Pv i ys H->H acc=some (.lst ys))(hl:∀i ys H,i<=xs.length->Pv i ys H->bV K H a xs)
  (d:∀i ys H x,xs[i]?=some x->Pv i ys H->sN iU acc g tt te x ys H (Pv (i+1)))(hd:∀ys H,Pv xs.length ys H->Q (.ref acc) H):oq (vG K a) iU acc g tt te H Q:=
 Au Pv h0 c (λi ys H b p=>⟨xs,xs[i],hl i ys H (gK b) p,by simp[b]⟩) (λys H p=>⟨xs,hl _ ys H (aJ _) p,aJ _⟩) (λi ys H x H' b p y=>by
  obtain⟨e,y⟩:=y;subst e;exact d i ys _ x (y xs (hl i ys _ (gK b) p)) p) hd
end
theorem Ag:∀{bs:FC} {a:BM},Vals (bs.map V.bl) a->LSm.BoolsAre a bs
 |[],_,.nil=>.nil
 |b::r,_,.cons q t=>by
  cases q;exact .cons b (Ag t)
theorem vU(hc:X.calm=true):fy X (.builtin "all") (λxs H Q=>∃(p:Addr) (bs:FC),xs=[.ref p]/\bf X.K H p (bs.map V.bl)/\Q (.bl (bs.all id)) H):=by
 intro ae s σ H xs n Q I r h;obtain⟨p,bs,rfl,f,q⟩:=h;obtain⟨u,rfl,g⟩:=vals1 r;cases g;obtain⟨vs,j,pl,w⟩:=I.list f;have c:=Ag j;have hl:=pl.isList;have a:p<s.heap.objs.size:=by obtain⟨_,e,_⟩:=hl;exact aW e
 refine call_all_walk (vo hl ?_);refine⟨s.heap.objs.size,[s.heap.objs.size,p],[s.heap.objs.size],vs.toArray.size,_,_,λi=>(bs[i]?).getD true,rfl,Walks.list (A:=X.A.in1) (I.ok.hd hc) _ p (bG a) vs.toArray,
  ⟨⟨_,cS _ rfl,rfl,rfl⟩,hl.push _⟩,λi v s' o t k d=>?_,λh' l m=>?_⟩
 .obtain⟨b,e,rfl⟩:=c.get i v (by simpa using k)
  simp only[e,getD_some] at d;exact nO d
 .have e:((range vs.toArray.size).all λi=>(bs[i]?).getD true)=bs.all id:=by
   rw[cE,c.length];exact LSm.range_all bs
  rw[e];exact⟨.bl _,H,I.kept (h':=h') (t':=l) (LSm.kept_iter m),rfl,q⟩
theorem Uz:bH X (binaryOp .FloorDiv) (rI (λ_ j=>0<j/\j.natAbs.log2<9000) λi j=>.int (i/j)):=Cd λi j _ _ _ _ _ hc q=>by
 have h1:(0:Int)<j:=hc.1;exact floordiv_int ω (by rw[Int.fdiv_eq_ediv_of_nonneg i ω];exact q) (.inl (PyProof.noPylong_of_log2 hc.2))
noncomputable def zL(y:Str):It:=⟨λi _=>i<y.cps.size,λi H x H'=>H'=H/\∃c,y.cps[i]?=some c/\x=.str ⟨#[c]⟩,λi _=>i=y.cps.size⟩
theorem YA{P:Program}{w:World}{K:Frag}{nm:Str}{px:Pos}{ty:String}{y:Str}{t:Tok}(it:Addr)
  (W:∀A:Around,A.handled=none->Walks P w A it [it] [it] y.cps.size (SignAt y) (λi h=>h.IsStrIter it ty y t i))
  (F:∀(A:Around) (i:Nat) (s:Shared) (Q:aV) (E:aV),s.heap.IsStrIter it ty y t i->Q (.ref it) s->wpAny (model P w) A (pyIter (.ref it)) Q E s):Turn P w K (.Name nm px) (zL y) [it] it (λi h=>h.IsStrIter it ty y t i) where
 mem:=θ
 obj:=λi h st b a=>by
  have e:b=it:=by simpa using a
  subst e
  obtain⟨o,e,c,d⟩:=st
  exact⟨o,e,λv z=>by rw[d] at z;cases z⟩
 keep:=λi h h' st k=>let ⟨o,G,r⟩:=st;⟨o,k it θ o G,r⟩
 item:=by
  intro X f j l hc i ae s σ H E I g st m
  subst f j l
  obtain⟨f0,L,M,n,f4,p⟩:=g it θ
  refine(W X.A (I.ok.hd hc)).item i s _ _ m st λv h' D f q x=> ?_
  obtain⟨c,u,B,rfl⟩:=f
  have J:Inv X ae σ H {s with heap:=h',toks:=D}:=I.turned (λb o a e=>x b o (by simpa using a) e) f0 L n f4 p
  exact⟨_,rfl,aK ⟨.str ⟨#[c]⟩,H,J,⟨u,rfl⟩,⟨rfl,c,B,rfl⟩,q,λb a=>(g b a).1⟩⟩
 done:=by
  intro X f j l hc i ae s σ H E I g st m
  subst f j l
  obtain⟨f0,L,M,n,f4,p⟩:=g it θ
  have C:i=y.cps.size:=m
  subst C
  exact(W X.A (I.ok.hd hc)).done s _ _ st λh' D x=>⟨rfl,I.turned (λb o a e=>x b o (by simpa using a) e) f0 L n f4 p⟩
 self:=λA i s Q E st h=>F A i s Q E st h
def RM(tl:TE):TI:=λσ H R=>tl σ H λx H1=>∃y,x=.str y/\R (zL y) H1
theorem Vr{l:Expr}{tl:TE}{nm:Str}{px:Pos}(hl:PE X l tl):PI X (.Name nm px) l (RM tl):=by
 intro ae s σ H R I h;refine aQ (hl ae s σ H _ I h) λv a ⟨x,H1,c,j,k⟩=>?_;obtain⟨y,e,q⟩:=k;subst e;obtain⟨t,rfl⟩:=j;have fin:∀(ty:String) (o:Obj) (W:∀A:Around,A.handled=none->Walks X.prog X.w A a.heap.objs.size [a.heap.objs.size] [a.heap.objs.size] y.cps.size (SignAt y) (λi h=>h.IsStrIter a.heap.objs.size ty y t i))
   (f:∀(A:Around) (i:Nat) (s:Shared) (Q:aV) (E:aV),s.heap.IsStrIter a.heap.objs.size ty y t i->Q (.ref a.heap.objs.size) s->wpAny (model X.prog X.w) A (pyIter (.ref a.heap.objs.size)) Q E s),
   (a.heap.push o).IsStrIter a.heap.objs.size ty y t 0->zP X ae σ (.Name nm px) R (.ref a.heap.objs.size) {a with heap:=a.heap.push o}:=λty o W f st=>by
  refine⟨a.heap.objs.size,[a.heap.objs.size],_,_,H1,rfl,c.kept (t':=a.toks) λb o e=>bu _ e,YA _ W f,st,λb m=>?_,q⟩;have e:b=a.heap.objs.size:=by simpa using m
  subst e;exact c.ng (aJ _) (c.ar.fresh (aJ _))
 cases g:y.cps.all (·<128)
 .exact wpAny_pyIter_wide g (fin _ _ (λA' d=>Walks.strWide d _ y t) (λ_ _ _ _ _ st h=>wpAny_pyIter_striter_wide st h) ⟨_,cS _ rfl,rfl,rfl⟩)
 .exact wpAny_pyIter_ascii g (fin _ _ (λA' d=>Walks.strAscii d _ y t) (λ_ _ _ _ _ st h=>wpAny_pyIter_striter_ascii st h) ⟨_,cS _ rfl,rfl,rfl⟩)
mutual
inductive Dp(K:Frag)(H:Hp):V->PyData->Prop
 |aD:Dp K H .aD .none
 |bl (b:Bool):Dp K H (.bl b) (.bool b)
 |int (i:Int):Dp K H (.int i) (.int i)
 |str (x:Str):Dp K H (.str x) (.str x)
 |lst {a:Addr} {xs:Bn} {ds:Fs}:bf K H a xs->gW K H xs ds->Dp K H (.ref a) (.list ds)
 |tup {a:Addr} {xs:Bn} {ds:Fs}:bV K H a xs->gW K H xs ds->Dp K H (.ref a) (.tuple ds)
inductive gW(K:Frag)(H:Hp):Bn->Fs->Prop
 |nil:gW K H [] []
 |cons {v:V} {vs:Bn} {d:PyData} {ds:Fs}:Dp K H v d->gW K H vs ds->gW K H (v::vs) (d::ds)
end
section
variable{ae:aZ}{σ:St}{H H':Hp}{s:Shared}{K:Frag}
mutual
theorem Dp.reads(I:Inv X ae σ H s):∀(d:PyData) (v:V) (u:Value),Dp X.K H v d->RelV v u->∃as,Reads s.heap u d as
 |.none,_,_,h,r=>by cases h;cases r;exact⟨_,.none⟩
 |.bool b,_,_,h,r=>by cases h;cases r;exact⟨_,.bool b⟩
 |.int i,_,_,h,r=>by cases h;obtain⟨t,rfl⟩:=r;exact⟨_,.int i t⟩
 |.str x,_,_,h,r=>by cases h;obtain⟨t,rfl⟩:=r;exact⟨_,.str x t⟩
 |.list ds,_,_,h,r=>by
  cases h with
  |lst a c=>
   cases r;obtain⟨g,f,pl,j⟩:=I.list a;obtain⟨as,ra⟩:=gW.reads I ds _ _ c f;obtain⟨o,e,hc,n,hd⟩:=pl.isList;exact⟨_,.list e hc hd (by simpa using ra)⟩
 |.tuple ds,_,_,h,r=>by
  cases h with
  |tup a c=>
   cases r;obtain⟨g,f,pl,j⟩:=I.tuple a;obtain⟨as,ra⟩:=gW.reads I ds _ _ c f;obtain⟨o,e,hc,n,hd⟩:=pl;exact⟨_,.tuple e hc hd (by simpa using ra)⟩
 |.dict _,_,_,h,_=>nomatch h
theorem gW.reads(I:Inv X ae σ H s):∀(ds:Fs) (vs:Bn) (a:BM),gW X.K H vs ds->Vals vs a->∃as,ReadsAll s.heap a ds as
 |[],_,_,h,r=>by cases h;cases r;exact⟨_,.nil⟩
 |d::ds,_,_,h,r=>by
  cases h with
  |cons h1 h2=>
   cases r with
   |cons b c=>
    obtain⟨as,e⟩:=Dp.reads I d _ _ h1 b;obtain⟨bs,f⟩:=gW.reads I ds _ _ h2 c;exact⟨_,.cons e f⟩
end
def Cp(K:Frag):R2:=λx y H Q=>∃d e,Dp K H x d/\Dp K H y e/\d.canLay0=true/\e.canLay0=true/\min d.depth e.depth<=64/\Q (.bl (PyData.eqv d e)) H
def Cu(K:Frag):R2:=λx y H Q=>∃d e,Dp K H x d/\Dp K H y e/\d.canLay0=true/\e.canLay0=true/\min d.depth e.depth<=64/\Q (.bl (!PyData.eqv d e)) H
theorem Uy(i:X.A.units+64<cLine):bH X (compareOp .Eq) (Cp X.K):=by
 intro ae s σ H x y v u Q I a b h;obtain⟨d,e,h1,h2,c,f,hd,q⟩:=h;obtain⟨as,ra⟩:=Dp.reads I d x v h1 a;obtain⟨bs,g⟩:=Dp.reads I e y u h2 b;exact SeqAt.compareEq_reads ra g c f ω ⟨.bl _,H,I,rfl,q⟩
theorem UK(i:X.A.units+64<cLine):bH X (compareOp .NotEq) (Cu X.K):=by
 intro ae s σ H x y v u Q I a b h;obtain⟨d,e,h1,h2,c,f,hd,q⟩:=h;obtain⟨as,ra⟩:=Dp.reads I d x v h1 a;obtain⟨bs,g⟩:=Dp.reads I e y u h2 b;exact SeqAt.compareNe_reads ra g c f ω ⟨.bl _,H,I,rfl,q⟩
theorem g_.new{p:Addr}(h:H p=none)(o:HO):g_ H (ax H p o):=λb u q=>by rw[aY (di q h)];exact q
theorem gW.ints:∀(xs:Fn),gW K H (xs.map V.int) (xs.map PyData.int)
 |[]=>.nil
 |x::r=>.cons (.int x) (gW.ints r)
end
section
variable{P:Program}{w:World}{K:Frag}{mg:ay}{base:Heap}
def TopD(K:Frag)(mg:ay)(x:Str)(st:Stmt)(ps:Ap):Prop:=∃f fd,lW K x x st f fd/\Binds K fd ps []/\mg x=some (.ref f)
end
section
variable{k:Nat}{x:Str}{ps:Ap}{sp:Sp}{e:Expr}{es:DD}{t:TA}{p pos:Pos}
theorem UD:bH X (compareOp .LtE) (λx y H Q=>∃i j,x=.str i/\y=.str j/\Q (.bl (!decide (j.cps.toList<i.cps.toList))) H):=by
 intro ae s σ H x y v u Q I a b h;obtain⟨i,j,rfl,rfl,q⟩:=h;obtain⟨t,rfl⟩:=a;obtain⟨c,rfl⟩:=b;exact PySem.P.le_str (dh I q rfl)
end
noncomputable def zJ(K:Frag)(a:Addr):It:=
 ⟨λi H=>∃xs x,bf K H a xs/\xs[i]?=some x,λi H x H'=>∃p y,H p=none/\x=.ref p/\H'=ax H p (.tup [.int (i:Nat),y])/\∀xs,bf K H a xs->xs[i]?=some y,λi H=>∃xs,bf K H a xs/\xs.length<=i⟩
theorem Yu{P:Program}{w:World}{K:Frag}{elts:DD}{k:Nat}{pos:Pos}(a e it:Addr)(B:e≠it):
  Turn P w K (.Tuple elts k pos) (zJ K a) [e,it] e (λi h=>(∃old,IsEnum h e it i old)/\h.IsListIter it a i) where
 mem:=θ
 obj:=λi h st b f=>by
  have j:b=e\/b=it:=by simpa using f
  obtain⟨⟨old,t⟩,o,e1,c,d⟩:=st
  rcases j with z|z
  .subst z
   exact⟨_,t,λv z=>nomatch (show Data.fields _=Data.cell v from z)⟩
  .subst z
   exact⟨o,e1,λv z=>by rw[d] at z;cases z⟩
 keep:=λi h h' st kp=>by
  obtain⟨⟨old,t⟩,st⟩:=st
  exact⟨⟨old,kp e θ _ t⟩,st.at λo q=>kp it θ o q⟩
 item:=by
  intro X N O Q hc i ae s σ H E I G st R
  subst N O Q
  obtain⟨xs,x,J,S⟩:=R
  obtain⟨its,T,p,hz⟩:=I.list J
  obtain⟨u,hu,ru⟩:=T.get S
  obtain⟨f0,f1,f2,f3,f4,f5⟩:=G e θ
  obtain⟨L,M,g2,U,V,W⟩:=G it θ
  obtain⟨⟨old,t⟩,y⟩:=st
  refine wpAny_pyNext_enum_item t y p.isList (x:=u) (by simpa using hu) B λh' ho C hT hsz hk=> ?_
  refine⟨_,rfl,wpAny_letOwnedTupleGo_enum ho λh'' D l=> ?_⟩
  have A:H s.heap.objs.size=none:=I.ar.fresh (aJ _)
  have elt:e<s.heap.objs.size:=aW t
  have Y:it<s.heap.objs.size:=by obtain⟨_,q,_⟩:=y;exact aW q
  have kp:∀b o,b≠e->b≠it->s.heap.get? b=some o->h''.get? b=some o:=λb o n1 n2 q=>(l.2 b n1).trans (hk b o n1 n2 q)
  have Z:h''.get? s.heap.objs.size=some {cls:= .type "tuple",data:= .seq #[.int i s.toks,u]}:=(l.2 _ (mQ elt)).trans hT
  have nb:∀b,b∉[e,it]->b≠e/\b≠it:=λb f=>⟨λz=>f (by simp[z]),λz=>f (by simp[z])⟩
  have nT:∀b o,s.heap.get? b=some o->b≠s.heap.objs.size:=λb o q=>bG (aW q)
  have I1:Inv X ae σ (ax H s.heap.objs.size (.tup [.int (i:Nat),x])) {s with heap:=h'',toks:=s.toks+1}:=by
   refine I.step (g':=s.gens) (d':=s.drawn) (ch:=[e,it]) (λb f=> ?_) (λb o _ _ f q _=>kp b o (nb b f).1 (nb b f).2 q) (λb o _ _ f q _=>⟨o.slots,kp b o (nb b f).1 (nb b f).2 q⟩)
    (λb o f q n=>by rw[aY (nT b o q)];exact n) (λb o f q=>⟨o,kp b o (nb b f).1 (nb b f).2 q⟩) (λb ys q=>by rw[aY (di q A)];exact q) (λb o v q=>by rw[aY (di q A)];exact q)
    (λb ps q=>⟨#[],by rw[aY (di q A),q];simp⟩) (λm hm=> ?_) (λb v q=> ?_) I.bare
   .have j:b=e\/b=it:=by simpa using f
    rcases j with z|z
    .subst z;exact⟨f3,f1,f4,f5⟩
    .subst z;exact⟨U,M,V,W⟩
   .obtain⟨o,es,ep,q,r⟩:=hm
    exact⟨o,es,ep,kp _ o (Ne.symm f1) (Ne.symm M) q,r⟩
   .by_cases f:b=s.heap.objs.size
    .subst f
     rw[dZ] at q
     cases q
     exact⟨by show 2<=sizeLine;decide,[.int i s.toks,u],.cons ⟨_,rfl⟩ (.cons ru .nil),_,Z⟩
    .rw[aY f] at q
     have ne1:∀c v',H c=some v'->c≠e/\c≠it:=λc v' g=>⟨λz=>(by rw[z,f0] at g;cases g),λz=>(by rw[z,L] at g;cases g)⟩
     refine(I.ar b v q).stay (λc w' F g=>kp c w' ?_ ?_ g) (λc g=>by rw[aY (di g A)];exact g) λc ys g=>by rw[aY (di g A)];exact g
     .rcases F with z|z
      .rw[z];exact(ne1 b v q).1
      .exact(ne1 c _ z).1
     .rcases F with z|z
      .rw[z];exact(ne1 b v q).2
      .exact(ne1 c _ z).2
  refine⟨.ref s.heap.objs.size,_,I1,rfl,⟨s.heap.objs.size,x,A,rfl,rfl,λys hy=>by rw[I.BQ hy J];exact S⟩,⟨⟨u,by simpa using D⟩,C.at λo q=>(l.2 it B.symm).trans q⟩,λb f=> ?_⟩
  have j:b=e\/b=it:=by simpa using f
  rcases j with z|z
  .subst z;rw[aY (bG elt)];exact f0
  .subst z;rw[aY (bG Y)];exact L
 done:=by
  intro X N O Q hc i ae s σ H E I G st R
  subst N O Q
  obtain⟨xs,J,S⟩:=R
  obtain⟨its,T,p,hz⟩:=I.list J
  obtain⟨L,M,g2,U,V,W⟩:=G it θ
  obtain⟨⟨old,t⟩,y⟩:=st
  have hl:=T.length
  exact wpAny_pyNext_enum_end (I.ok.hd hc) t y p.isList (by simp;omega) λh' eb=>⟨rfl,I.turned (t':=s.toks) (λb o f e=>eb b o f e) L M U V W⟩
 self:=λ_ _ _ _ _ st h=>by
  obtain⟨⟨old,t⟩,_⟩:=st
  exact wpAny_pyIter_enum t h
def RC(K:Frag)(ta:TA):TI:=λσ H R=>ta σ H λvs H1=>∃a xs,vs=[.ref a]/\bf K H1 a xs/\R (zJ K a) H1
theorem Vm{l:Expr}{ta:TA}{elts:DD}{k:Nat}{tpos p pos:Pos}(j:Gl X "enumerate")(m:X.mg "enumerate"=none)(n:PA X [l] ta)(f:bootBuiltins "enumerate"=some (.type "enumerate"))(o:starEach [l] X.env=[(false,eval l X.env)]:=by rfl):
  PI X (.Tuple elts k tpos) (.Call (.Name "enumerate" p) [l] [] pos) (RC X.K ta):=by
 intro ae s σ H R I h;refine Call_ (jr I j m f (mK (aQ (n pos ae s σ H _ I h) λA c ⟨vs,H1,d,r,t⟩=>?_) o rfl));obtain⟨a,xs,e,v,q⟩:=t;subst e;obtain⟨u,rfl,w⟩:=vals1 r;cases w;obtain⟨C,B,pl,E⟩:=d.list v;refine call_enumerate_list pl.isList λh' i hit D x=>?_;have y:Inv X ae σ H1 {c with heap:=h'}:=d.kept (t':=c.toks) x;refine wpAny_pyIter_enum i ⟨_,[c.heap.objs.size+1,c.heap.objs.size],_,_,H1,rfl,y,Yu a _ _ (mQ (pV _)),⟨⟨_,i⟩,hit⟩,λb f=>?_,q⟩;have g:b=c.heap.objs.size+1\/b=c.heap.objs.size:=by simpa using f
 rcases g with z|z
 .subst z
  exact d.ng (nG _) (d.ar.fresh (nG _))
 .subst z
  exact d.ng (aJ _) (d.ar.fresh (aJ _))
def XY(K:Frag)(ta:TA):TE:=λσ H Q=>ta σ H λvs H1=>∃a b xs ys,vs=[.ref a,.ref b]/\bf K H1 a xs/\bf K H1 b ys/\
 ∀(l:Addr) (H':Hp) (ps:Bn),g_ H1 H'->H1 l=none->H' l=some (.lst ps)->ps.length=min xs.length ys.length->(∀(j:Nat) p,ps[j]?=some p->∃t x y,p=.ref t/\xs[j]?=some x/\ys[j]?=some y/\H' t=some (.tup [x,y]))->Q (.ref l) H'
theorem Inv.many{ae:aZ}{σ:St}{H H':Hp}{s:Shared}{h':Heap}{t':Nat}(I:Inv X ae σ H s)(kp:∀b o,s.heap.get? b=some o->h'.get? b=some o)(d:g_ H H')
  (a:∀b o,H' b=some o->H b=some o\/(s.heap.objs.size<=b/\b9 X.prog X.w H' h' b o)):Inv X ae σ H' {s with heap:=h',toks:=t'}:=by
 refine I.un (h':=h') (t':=t') ⟨λb o q _ _ _=>kp b o q,λb o q _ _ _=>⟨o.slots,kp b o q⟩,λb o q n _=>?_,λb o q _=>⟨o,kp b o q⟩,λb xs q=>d _ _ q,λb o u q=>d _ _ q,λb ps q=>⟨#[],by rw[d _ _ q];simp⟩⟩ λb o q=>?_
 .cases e:H' b with
  |none=>rfl
  |some u=>
   rcases a b u e with z|⟨z,_⟩
   .rw[n] at z;cases z
   .exact absurd (dj (aW q) z) (gu _)
 .rcases a b o q with z|⟨_,z⟩
  .exact(I.ar b o z).stay (λc v _ r=>kp c v r) (λc r=>d _ _ r) λc xs r=>d _ _ r
  .exact z
theorem U8{a b:Expr}{ta:TA}{p1 p2 m d:Pos}(O:Gl X "list")(P:X.mg "list"=none)(R:bootBuiltins "list"=some (.type "list"))(S:Gl X "zip")(T:X.mg "zip"=none)(U:bootBuiltins "zip"=some (.type "zip"))(hc:X.calm=true)(ha:PA X [a,b] ta)
  (hs:starEach [a,b] X.env=[(false,eval a X.env),(false,eval b X.env)]:=by rfl)(n:starEach [b] X.env=[(false,eval b X.env)]:=by rfl)
  (hz:starEach [.Call (.Name "zip" p2) [a,b] [] d] X.env=[(false,eval (.Call (.Name "zip" p2) [a,b] [] d) X.env)]:=by rfl):
  PE X (.Call (.Name "list" p1) [.Call (.Name "zip" p2) [a,b] [] d] [] m) (XY X.K ta):=by
 intro ae s σ H Q I h
 refine kO (jr I O P R ?_)
 refine mK ?_ hz rfl
 rw[hz]
 refine vd (kO (jr I S T U (mK (aQ (ha d ae s σ H _ I h) λus c ⟨vs,H1,k,r1,q1⟩=> ?_) (by rw[hs,n]) (by rw[n];rfl))))
 obtain⟨pa,pb,xs,ys,e,hx,hy,q⟩:=q1
 subst e
 obtain⟨u1,u2,rfl,W,Y⟩:=vals2 r1
 cases W
 cases Y
 obtain⟨t,A,Z,hz1⟩:=k.list hx
 obtain⟨B,C,Cg,hz2⟩:=k.list hy
 have l1:=A.length
 have l2:=C.length
 refine aQ (ZL.SK (E:=X.xe) (Q:=EP X ae σ Q) (k.ok.hd hc) Z.isList Cg.isList (by simp only[cE];omega) λh' c' hp hS kp=> ?_) λz s2 hq=>vf hq
 have em:min t.toArray.size B.toArray.size=min xs.length ys.length:=by simp only[cE];omega
 rw[em] at hS
 have hn:∀j:Nat,H1 (c.heap.objs.size+j)=none:=λj=>k.ar.fresh (lK _ _)
 have pair:∀j:Nat,j<min xs.length ys.length->∃x y u v,xs[j]? =some x/\ys[j]? =some y/\RelV x u/\RelV y v/\IsPair h' (c.heap.objs.size+6+j) u v:=λj hj=>by
  have D:xs[j]? =some (xs[j]' ω):=aS _
  have F:ys[j]? =some (ys[j]' ω):=aS _
  obtain⟨u,hu,ru⟩:=A.get D
  obtain⟨v,hv,f⟩:=C.get F
  exact⟨_,_,u,v,D,F,ru,f,hp j u v (by simpa using hu) (by simpa using hv)⟩
 let H':Hp:=λb=>if b=c.heap.objs.size+5 then some (.lst ((range (min xs.length ys.length)).map λj=>V.ref (c.heap.objs.size+6+j))) else
  if c.heap.objs.size+6<=b/\b - (c.heap.objs.size+6)<min xs.length ys.length then some (.tup [(xs[b - (c.heap.objs.size+6)]?).getD .aD,(ys[b - (c.heap.objs.size+6)]?).getD .aD]) else H1 b
 have G:H' (c.heap.objs.size+5)=some (.lst ((range (min xs.length ys.length)).map λj=>V.ref (c.heap.objs.size+6+j))):=by
  show(if _ then _ else _)=_
  rw[aB rfl]
 have J:∀(j:Nat) x y,xs[j]? =some x->ys[j]? =some y->H' (c.heap.objs.size+6+j)=some (.tup [x,y]):=λj x y g i=>by
  have j1:=(bK.mp g).1
  have j2:=(bK.mp i).1
  have L:c.heap.objs.size+6+j - (c.heap.objs.size+6)=j:=Nat.add_sub_cancel_left _ _
  have Ra:j<min xs.length ys.length:=Nat.lt_min.mpr ⟨j1,j2⟩
  show(if _ then _ else if _ then _ else _)=_
  rw[av (λz=>by have z': @Eq Nat (c.heap.objs.size+6+j) (c.heap.objs.size+5):=z;omega),aB ⟨lK _ _,by rw[L];exact Ra⟩,L,g,i]
  rfl
 have hold:g_ H1 H':=λb o e=>by
  have hb: @LT.lt Nat _ b c.heap.objs.size:=k.ar.lt e
  show(if _ then _ else if _ then _ else _)=_
  rw[av (λz=>by have z': @Eq Nat b (c.heap.objs.size+5):=z;omega),av (λz=>by have z': @LE.le Nat _ (c.heap.objs.size+6) b:=z.1;omega)]
  exact e
 have M:∀b o,H' b=some o->H1 b=some o\/(c.heap.objs.size<=b/\b9 X.prog X.w H' h' b o):=λb o e=>by
  by_cases hb:b=c.heap.objs.size+5
  .subst hb
   rw[G] at e
   cases e
   refine .inr ⟨lK _ _,by rw[aM,pR];omega,(range (min xs.length ys.length)).map λj=>Value.ref (c.heap.objs.size+6+j),c',?_,hS⟩
   have:∀l:Dx,Vals (l.map λj=>V.ref (c.heap.objs.size+6+j)) (l.map λj=>Value.ref (c.heap.objs.size+6+j)):=λl=>by
    induction l with
    |nil=>exact .nil
    |cons j r ih=>exact .cons rfl ih
   exact this _
  .by_cases N:c.heap.objs.size+6<=b/\b - (c.heap.objs.size+6)<min xs.length ys.length
   .obtain⟨g1,g2⟩:=N
    have eb:b=c.heap.objs.size+6+(b - (c.heap.objs.size+6)):=(Nat.add_sub_cancel' g1).symm
    obtain⟨x,y,u,v,g,i,ru,f,pr⟩:=pair _ g2
    rw[eb,J _ x y g i] at e
    cases e
    refine .inr ⟨d7 (lK _ 6) g1,by show 2<=sizeLine;decide,[u,v],.cons ru (.cons f .nil),?_⟩
    rw[eb]
    exact⟨_,pr⟩
   .left
    have e':(if b=c.heap.objs.size+5 then some (HO.lst ((range (min xs.length ys.length)).map λj=>V.ref (c.heap.objs.size+6+j))) else
     if c.heap.objs.size+6<=b/\b - (c.heap.objs.size+6)<min xs.length ys.length then some (.tup [(xs[b - (c.heap.objs.size+6)]?).getD .aD,(ys[b - (c.heap.objs.size+6)]?).getD .aD]) else H1 b)=some o:=e
    rw[av hb,av N] at e'
    exact e'
 refine⟨.ref (c.heap.objs.size+5),H',k.many (h':=h') (t':=c.toks) kp hold M,rfl,q _ H' _ hold (hn 5) G (by rw[aM,pR]) λj p e=> ?_⟩
 rw[bz] at e
 cases er:(range (min xs.length ys.length))[j]? with
 |none=>rw[er] at e;cases e
 |some j'=>
  rw[er] at e
  obtain⟨hj,L⟩:=bK.mp er
  rw[List.getElem_range] at L
  subst L
  cases e
  have hj':j<min xs.length ys.length:=by simpa using hj
  obtain⟨x,y,u,v,g,i,_⟩:=pair j hj'
  exact⟨_,x,y,rfl,g,i,J j x y g i⟩
inductive sE(K:Frag)(H:Hp):V->Value->Prop where
 |of {x:V} {t:Value} (h:jn K H x t):sE K H x t
 |tup {a:Addr} {xs:Bn} (h:bV K H a xs):sE K H (.ref a) (.type "tuple")
 |lst {a:Addr} {xs:Bn} (h:bf K H a xs):sE K H (.ref a) (.type "list")
theorem M0{X:Cx}:fy X (.builtin "isinstance") (λxs H Q=>∃x c t b,xs=[x,.ty c]/\sE X.K H x t/\kitOne X.K t (.type c)=some b/\Q (.bl b) H):=by
 intro ae s σ H xs j Q I r h;obtain⟨x,c,t,b,rfl,ty,e,q⟩:=h;obtain⟨u,k,rfl,d,f⟩:=vals2 r;cases f;cases ty with
 |of ty=>exact R0 I d ty e λa=>⟨.bl b,H,I.tok a,rfl,q⟩
 |tup g=>
  cases d;obtain⟨l,i,⟨o,h1,h2,_⟩,_⟩:=I.tuple g;exact jg kitx_tuple I.fD ⟨o,h1,h2⟩ e (λz=>nomatch z) λa=>⟨.bl b,H,I.tok a,rfl,q⟩
 |lst g=>
  cases d;obtain⟨l,i,pl,_⟩:=I.list g;obtain⟨o,h1,h2,_⟩:=pl.isList;exact jg kitx_list I.fD ⟨o,h1,h2⟩ e (λz=>nomatch z) λa=>⟨.bl b,H,I.tok a,rfl,q⟩
end L2
end
namespace MA
theorem GL{a b:Int}(c:0<=a)(d:0<b):Int.gcd b (a%b)=Int.gcd a b:=by
 obtain⟨m,rfl⟩:=Int.eq_ofNat_of_zero_le c;obtain⟨n,rfl⟩:=Int.eq_ofNat_of_zero_le (dM d);rw[<-Int.natCast_emod,Int.gcd_natCast_natCast,Int.gcd_natCast_natCast,Nat.gcd_comm n (m%n),<-Nat.gcd_rec,Nat.gcd_comm]
def rf(x:Rat):Int×Int:=(x.num,(x.den:Int))
theorem cj(x:Rat):0<(rf x).2:=by
 have:=x.den_pos;show(0:Int)<(x.den:Int);omega
theorem gc(x:Rat):((rf x).1:Rat)/((rf x).2:Rat)=x:=by
 show(x.num:Rat)/((x.den:Int):Rat)=x;rw[<-Rat.divInt_eq_div,Rat.divInt_ofNat,Rat.mkRat_self]
theorem Wd{x y:Rat}(h:rf x=rf y):x=y:=by rw[<-gc x,<-gc y,h]
theorem yE{a b:Int}(c:0<b):(a/(Int.gcd a b:Int),b/(Int.gcd a b:Int))=rf ((a:Rat)/(b:Rat)):=by
 rw[<-Rat.divInt_eq_div];unfold rf;have h1:=Rat.num_divInt a b;have h2:=Rat.den_divInt a b;rw[h1,h2];have d:b.sign=1:=Int.sign_eq_one_of_pos c;rw[d,av ω,one_mul,Int.gcd_comm b a];congr 1;have:(b.natAbs:Int)=b:=ω
 rw[Int.natCast_ediv,this]
inductive cu(N:Type) where
 |wt (n:N)
 |eZ (l r:Int) (a b:cu N)
namespace cu
variable{N:Type}
def arms:cu N->Prop
 |wt _=>True
 |eZ l r a b=>1<=l/\l<=9/\1<=r/\r<=9/\a.arms/\b.arms
noncomputable def deep:cu N->Nat
 |wt _=>0
 |eZ _ _ a b=>max a.deep b.deep+1
noncomputable def names:cu N->List N
 |wt n=>[n]
 |eZ _ _ a b=>a.names++b.names
def sh:cu N->Rat->Fu
 |wt _,x=>[x]
 |eZ l r a b,x=>a.sh (x*((r:Rat)/((l+r:Int):Rat)))++b.sh (x*((l:Rat)/((l+r:Int):Rat)))
theorem o4:∀(m:cu N),m.names.length<=2 ^ m.deep
 |wt _=>aJ 1
 |eZ _ _ a b=>by
  have h1:=o4 a;have h2:=o4 b;have c:2 ^ a.deep<=2 ^ max a.deep b.deep:=iT δ (u7 _ _);have d:2 ^ b.deep<=2 ^ max a.deep b.deep:=iT δ (u9 _ _);show List.length (_++_)<=2 ^ (max a.deep b.deep+1);rw[eE,Nat.pow_succ];omega
theorem B4:∀(m:cu N),0<m.names.length
 |wt _=>Nat.zero_lt_one
 |eZ _ _ a b=>by
  have h1:=B4 a;show 0<List.length (_++_);rw[eE];omega
end cu
theorem uN:rf 1=(1,1):=by rfl
theorem gP{a:Int}(h:a≠0):(a:Rat)≠0:=by
 intro z;exact h (by exact_mod_cast z)
theorem Cy(t:Rat)(a b:Int):rf ((((rf t).1*a:Int):Rat)/(((rf t).2*b:Int):Rat))=rf (t*((a:Rat)/(b:Rat))):=by
 have h1:=gP (fW (cj t));congr 1;rw[gv,gv];have d:=gc t;by_cases c:(b:Rat)=0
 .rw[c];grind
 .grind
theorem Cz(t s:Rat):rf ((((rf t).1*(rf s).1:Int):Rat)/(((rf t).2*(rf s).2:Int):Rat))=rf (t*s):=by
 rw[Cy,gc]
theorem Ow{a b:Int}(c:0<b):(rf ((a:Rat)/(b:Rat))).2<=b:=by
 rw[<-yE c];show b/(Int.gcd a b:Int)<=b;exact r8 _ (dM c)
theorem den_mul{t:Rat}{a b:Int}(c:0<b):(rf (t*((a:Rat)/(b:Rat)))).2<=(rf t).2*b:=by
 rw[<-Cy];exact Ow (dm (cj t) c)
theorem cV{x:Rat}(h:0<x):0<(rf x).1:=by
 have h1:0<=(rf x).1:=Rat.num_nonneg.mpr (Rat.le_of_lt h);have h2:(rf x).1≠0:=λz=>by
  have e:=gc x;rw[z] at e;have a:x=0:=by rw[<-e,rW];grind
  rw[a] at h;exact absurd h δ
 omega
namespace cu
variable{N:Type}
theorem step_pos{l r:Int}{x:Rat}(hl:1<=l)(a:1<=r)(h:0<x):0<x*((r:Rat)/((l+r:Int):Rat)):=by
 have h1:(0:Rat)<(r:Rat):=by exact_mod_cast (ω:(0:Int)<r)
 have h2:(0:Rat)<((l+r:Int):Rat):=by exact_mod_cast (ω:(0:Int)<l+r)
 exact mS h (by rw[rW];exact mS h1 (vz.mpr h2))
theorem yK:∀(m:cu N) (x:Rat) (B:Int),m.arms->0<x->(rf x).2<=B->∀s∈m.sh x,0<s/\(rf s).2<=B*18 ^ m.deep
 |wt _,x,B,_,h1,h2,s,hs=>by
  have:s=x:=by simpa[sh] using hs
  subst this;exact⟨h1,by simpa[deep] using h2⟩
 |eZ l r a b,x,B,h,h1,h2,s,hs=>by
  obtain⟨f,u,g,v,i,j⟩:=h;have n:0<B:=rT (cj x) h2;have o:(rf (x*((r:Rat)/((l+r:Int):Rat)))).2<=B*18:=by
   refine fh (den_mul ω) ?_;exact dc h2 ω ω ω
  have p:(rf (x*((l:Rat)/((l+r:Int):Rat)))).2<=B*18:=by
   refine fh (den_mul ω) ?_;exact dc h2 ω ω ω
  have q:0<x*((r:Rat)/((l+r:Int):Rat)):=step_pos f g h1;have p2:0<x*((l:Rat)/((l+r:Int):Rat)):=by
   have:=step_pos (l:=r) (r:=l) g f h1;rwa [add_comm r l] at this
  have up:∀k:Nat,k<=max a.deep b.deep->B*18*18 ^ k<=B*18 ^ (max a.deep b.deep+1):=λk t=>by
   rw[jz,mP,nJ 18 (18 ^ k)];refine rV ?_ (dM n);refine zv ?_ δ;have:(18:Nat) ^ k<=18 ^ max a.deep b.deep:=iT δ t;exact_mod_cast this
  have c:s∈a.sh (x*((r:Rat)/((l+r:Int):Rat)))\/s∈b.sh (x*((l:Rat)/((l+r:Int):Rat))):=bR.mp hs;rcases c with hs|hs
  .obtain⟨d,e⟩:=yK a _ _ i q o s hs
   exact⟨d,fh e (up _ (u7 _ _))⟩
  .obtain⟨d,e⟩:=yK b _ _ j p2 p s hs
   exact⟨d,fh e (up _ (u9 _ _))⟩
end cu
noncomputable def fN{W N S:Type}[DecidableEq N][DecidableEq S](pre:List (W×N×S)):List (W×N×S)->Option (W×W)
 |[]=>none
 |(w,n,s)::r=>match pre.find? (λp=>decide (p.2.1=n)) with
  |some p=>if p.2.2=s then fN (pre++[(w,n,s)]) r else some (p.1,w)
  |none=>fN (pre++[(w,n,s)]) r
end MA
section
open PySem PySem.Spec PyProof.Rows
namespace L2
section
variable{P:Program}{w:World}{H H':Hp}{h:Heap}{a:Addr}{o:HO}
theorem b9.obj(x:b9 P w H h a o):∃u,h.get? a=some u:=by
 cases o with
 |lst xs=>obtain⟨_,_,_,_,e⟩:=x;exact⟨_,e⟩
 |tup xs=>obtain⟨_,_,_,_,e⟩:=x;exact⟨_,e⟩
 |dK kvs=>obtain⟨_,_,_,_,o,_,_,e,_⟩:=x;exact⟨_,e⟩
 |dT kvs=>obtain⟨_,_,_,_,o,_,_,e,_⟩:=x;exact⟨_,e⟩
 |set S n=>obtain⟨o,_,_,_,e,_⟩:=x;exact⟨_,e⟩
 |ins C dx fs=>obtain⟨_,_,_,e,_⟩:=x;exact⟨_,e⟩
 |own y=>exact x
 |xd fs=>obtain⟨_,⟨_,_,_,e,_⟩,_⟩:=x;exact⟨_,e⟩
 |gH lo hi=>obtain⟨_,_,_,e⟩:=x;exact⟨_,e⟩
 |bW b u=>obtain⟨e,_⟩:=x;exact⟨_,e⟩
 |jw ps=>exact⟨_,(show h.get? a=some _ from x)⟩
 |met f y=>exact⟨_,(show h.get? a=some _ from x)⟩
 |ext c=>obtain⟨_,e,_⟩:=x;exact e
end
structure gY(P:Program)(w:World)(outer:Fh)(H H':Hp)(s s':Shared)(a:Addr)(C:Value):Prop where
 os:s'.os=s.os
 bare:AllBare s'.gens
 slot:∀b o,s.heap.get? b=some o->b∈frs outer->∃sl,s'.heap.get? b=some {o with slots:=sl}
 free:∀b o,s.heap.get? b=some o->H b=none->H' b=none
 tups:∀b xs,H b=some (.tup xs)->H' b=some (.tup xs)
 fQ:∀b o u,H b=some (.bW o u)->H' b=some (.bW o u)
 gq:∀b ps,H b=some (.jw ps)->∃more,H' b=some (.jw (ps++more))
 fl:∃(B:Heap) (a0:Value),(∀b o,s.heap.get? b=some o->H b=none->b∉frs outer->B.get? b=some o)/\(∀b o,s.heap.get? b=some o->b∉frs outer->∃o',B.get? b=some o')/\c8 P w H' B/\FlyingW B outer a C a0 s'.heap
section
variable{P:Program}{w:World}{outer:Fh}{H H':Hp}{s s':Shared}{a:Addr}{C:Value}
theorem gY.un(F:gY P w outer H H' s s' a C):Un (frs outer) [] H H' s.heap s'.heap where
 keep:=λb o q n c _=>by
  obtain⟨B,a0,k,_,_,f⟩:=F.fl
  exact f.1 b o (k b o q n c)
 slot:=λb o q n c _=>F.slot b o q c
 free:=λb o q n _=>F.free b o q n
 there:=λb o q _=>by
  by_cases c:b∈frs outer
  .obtain⟨d,e⟩:=F.slot b o q c
   exact⟨_,e⟩
  .obtain⟨B,a0,_,t,_,f⟩:=F.fl
   obtain⟨o',e⟩:=t b o q c
   exact⟨o',f.1 b o' e⟩
 tups:=F.tups
 fQ:=F.fQ
 gq:=F.gq
theorem gY.ar(F:gY P w outer H H' s s' a C):c8 P w H' s'.heap:=by
 obtain⟨B,a0,_,_,h,f⟩:=F.fl;exact h.kept f.1
theorem gY.new(F:gY P w outer H H' s s' a C):H' a=none:=by
 obtain⟨B,a0,_,_,h,f⟩:=F.fl;cases e:H' a with
 |none=>rfl
 |some o=>
  obtain⟨u,q⟩:=(h a o e).obj;rw[f.2.1] at q;cases q
end
def bU(P:Program)(w:World):jk:=λouter H s E e s'=>∃(a:Addr) (C:Value) (H':Hp),e=.ref a/\gY P w outer H H' s s' a C/\E C none H'
variable{X:Cx}
section
variable{ae:aZ}{σ:St}{H H':Hp}{s s':Shared}{a:Addr}{C:Value}
theorem Gv(I:Inv X ae σ H s)(hex:X.ex=[])(os:s'.os=s.os)(bare:AllBare s'.gens)(slot:∀b o,s.heap.get? b=some o->b∈frs X.outer->∃i,s'.heap.get? b=some {o with slots:=i})
  (free:∀b o,s.heap.get? b=some o->H b=none->H' b=none)(tups:∀b xs,H b=some (.tup xs)->H' b=some (.tup xs))(fQ:∀b o u,H b=some (.bW o u)->H' b=some (.bW o u))
  (gq:∀b ps,H b=some (.jw ps)->∃d,H' b=some (.jw (ps++d)))
  (fl:∃(B:Heap) (a0:Value),(∀b o,s.heap.get? b=some o->H b=none->b∉frs X.stack->B.get? b=some o)/\(∀b o,s.heap.get? b=some o->b∉frs X.stack->∃o',B.get? b=some o')/\c8 X.prog X.w H' B/\FlyingW B X.outer a C a0 s'.heap):
  gY X.prog X.w X.outer X.H₀ H' X.s₀ s' a C:=by
 have nx:∀b:Addr,b∉X.ex:=λb=>by rw[hex];simp
 have g:∀b o,X.s₀.heap.get? b=some o->b∉frs X.outer->b∉frs X.stack:=λb o q c z=>by
  rcases bx.mp (I.rB b z) with e|e
  .exact absurd (dj (aW q) I.ok.above) (by rw[e];exact gu _)
  .exact c e
 refine⟨os.trans I.os,bare,λb o q c=> ?_,λb o q n=> ?_,λb xs q=>tups b xs (I.base.tups b xs q),λb o u q=>fQ b o u (I.base.fQ b o u q),λb ps q=> ?_,?_⟩
 .obtain⟨i,e⟩:=I.base.slot b o q (I.ok.ly b c) c (nx b)
  obtain⟨j,l⟩:=slot b _ e c
  exact⟨j,l⟩
 .obtain⟨i,e⟩:=I.base.any q n (nx b)
  exact free b _ e (I.base.free b o q n (nx b))
 .obtain⟨m,p⟩:=I.base.gq b ps q
  obtain⟨r,v⟩:=gq b _ p
  exact⟨m++r,by rw[v,Array.append_assoc]⟩
 .obtain⟨B,a0,k,t,h,f⟩:=fl
  refine⟨B,a0,λb o q n c=>k b o (I.base.keep b o q n c (nx b)) (I.base.free b o q n (nx b)) (g b o q c),λb o q c=> ?_,h,f⟩
  obtain⟨o',e⟩:=I.base.there b o q (nx b)
  exact t b o' e (g b o q c)
end
def Raises(X:Cx)(E:XK):Prop:=∀(ae:aZ) (σ:St) (H:Hp) (s:Shared) (e:Addr) (h':Heap) (C:Value) (args:BM),Inv X ae σ H s->Heap.MadeExcOf s.heap h' e C args->E C none H->X.xe (.ref e) {s with heap:=h'}
section
variable{P:Program}{w:World}{K:Frag}{mg:ay}{base:Heap}{N:Ap}{qual:Str}{scope:Scope}{f:Addr}{cd:Value}{A:Around}{outer:Fh}{s:Shared}{H:Hp}{E:XK}
theorem GD{env:Env}{l:Fh}{b:Addr}(h:b∈frs l):b∈frs (env::l):=by
 obtain⟨e,a,c⟩:=u_.mp h;exact u_.mpr ⟨e,bq _ a,c⟩
theorem Jx:Raises (cU (bU P w) P w K mg base N qual scope f cd A outer s H E) E:=by
 intro ae σ H1 j e h' C args I i k;have stk:=I.stack;have xM:∀b o,H1 b=some o->b∉frs (cU (bU P w) P w K mg base N qual scope f cd A outer s H E).stack:=λb o q z=>by
  rw[I.CL b z] at q;cases q
 have h:∀a∈(cU (bU P w) P w K mg base N qual scope f cd A outer s H E).stack,∀b,a.frame=some b->b∈frs (cU (bU P w) P w K mg base N qual scope f cd A outer s H E).stack:=λa l b d=>u_.mpr ⟨a,l,d⟩;show wpAny (model P w) _ (leaving _ (.ref e)) _ _ _;refine wpAny_leaves_madeW (base:=hideAll j.heap (frs (cU (bU P w) P w K mg base N qual scope f cd A outer s H E).stack)) I.ok.frames rfl (λb o q=>of_hideAll _ q) (PySem.W.funFrames_hide stk h) i λh'' t fl tup m up=>?_;refine⟨e,C,H1,rfl,Gv I rfl rfl I.bare (λb o q d=>?_) (λ_ _ _ n=>n) (λ_ _ q=>q) (λ_ _ _ q=>q) (λ_ ps q=>⟨#[],by rw[q];simp⟩) ⟨_,_,λb o q n d=>hideAll_get _ q d,λb o q d=>⟨o,hideAll_get _ q d⟩,λb o q=>?_,fl⟩,k⟩
 .obtain⟨_,o',g,hd⟩:=stk.mem (GD (env:=envOfC qual scope s.heap.objs.size f cd) d)
  rw[q] at g;cases g;exact up b o (i.keeps b o q) hd
 .refine(I.ar b o q).stay (λc u hc r=>hideAll_get _ r ?_) (λ_ r=>r) λ_ _ r=>r
  rcases hc with z|z
  .rw[z];exact xM b o q
  .exact xM c _ z
theorem IJ:Passes (bU P w) (cU (bU P w) P w K mg base N qual scope f cd A outer s H E) E:=by
 intro ae σ H1 n e s' I h;obtain⟨a,C,H',rfl,F,j⟩:=h;obtain⟨B,a0,k,th,ar,fl⟩:=F.fl;show wpAny (model P w) _ (leaving _ (.ref a)) _ _ _;refine wpAny_leaves_onW I.ok.frames rfl fl λh'' g up=>⟨a,C,H',rfl,Gv I rfl F.os F.bare (λb o q l=>?_) F.free F.tups F.fQ F.gq ⟨B,a0,k,th,ar,g⟩,j⟩;have c:=GD (env:=envOfC qual scope s.heap.objs.size f cd) l;obtain⟨p,e⟩:=F.slot b o q c;obtain⟨_,o',d,hd⟩:=fl.2.2.1.mem c;rw[e] at d;cases d;obtain⟨i,m⟩:=up b _ e hd;exact⟨i,m⟩
theorem dP:PassesOwn (model P w) (cU (bU P w) P w K mg base N qual scope f cd A outer s H E).A (cU (bU P w) P w K mg base N qual scope f cd A outer s H E).env (cU (bU P w) P w K mg base N qual scope f cd A outer s H E).xe:=
 PassesOwn.leaving
end
abbrev mG:BM:=[.type "ValueError",.type "Exception",.type "BaseException",.type "object"]
theorem O_{K:Frag}{h:Heap}{C:Addr}{b:BM}{newId:String}(X:K.In h)(q:excIn K C b newId=true):∃nm d N bs bm hdct sn sub ab col dd k0 k1 k2 k3 k5,∃mN:ay,
  h.get? C=some (excClassObj nm d C N bs bm hdct sn sub ab col dd k0 k1 k2 k3 k5 newId)/\h.Ns N mN/\mN "__init__"=none/\OwnTail h b bm:=by
 unfold excIn at q;split at q
 .rename_i dd cd f j
  split at q
  .rename_i m bm k0 k1 k2 k3 n k5 g i
   simp only[fX,beq_iff_eq,vg] at q;obtain⟨⟨⟨⟨⟨rfl,rfl⟩,a⟩,k⟩,ar⟩,c⟩:=q;obtain⟨nm,bs,mro,ns,d,hd,sn,sub,ab,col,del⟩:=cd;dsimp only at g a ar c;subst g a;have e:f= #[k0,k1,k2,k3,some (.builtin n),k5]:=by
    obtain⟨l⟩:=f;simp only at i;rw[i]
   subst e;exact⟨nm,d,ns,bs,bm,hd,sn,sub,ab,col,dd,k0,k1,k2,k3,k5,_,X _ _ j,.of_isNs (PySem.W.isNs_of_in X ar),PySem.W.nsMap_none_of_in X ar c,PySem.W.tail_of_in X k⟩
  .cases q
 .cases q
section
variable{E:XK}{x:Str}{C:Addr}{e:Expr}{t:TA}{np cpos pos:Pos}
def X7(E:XK)(C:Addr)(t:TA):TS:=λ_ σ H=>t σ H λvs H1=>vs.length<=sizeLine/\E (.ref C) none H1
theorem VN(j:Raises X E)(hc:X.calm=true)(k:X.mg x=some (.ref C))(l:excIn X.K C mG "ValueError.__new__"=true)(m:PA X [e] t)(n:Gl X x:=by rfl)(b:(x==("__debug__":Str))=false:=by decide)
  (f:starEach [e] X.env=[(false,eval e X.env)]:=by rfl):PS X (.Raise (some (.Call (.Name x np) [e] [] cpos)) none pos) (X7 E C t):=by
 intro ae s σ H D I h;obtain⟨nm,o,N,bs,bm,hdct,sn,sub,ab,col,dd,k0,k1,k2,k3,k5,mN,c,p,d,g⟩:=O_ I.mod.qQ l;refine wpAny_Raise_call_subT (nm:=nm) (q:=o) (C:=C) (N:=N) (bs:=bs) (bm:=bm) (hdct:=hdct) (sn:=sn) (sub:=sub) (ab:=ab) (col:=col) (dd:=dd) (k0:=k0) (k1:=k1) (k2:=k2) (k3:=k3) (k5:=k5) (mN:=mN) PySem.F.excBase_ValueError (g.hasType η) (I.ok.hd hc) (by rw[f];rfl) d (uf I n k ⟨rfl,?_⟩ b);have h':=m cpos ae s σ H _ I h;rw[f] at h' ⊢;refine Calls.evalArgs_plain (aQ h' λr w ⟨vs,H1,a,u,i⟩=>?_);have hl:=u.length;exact⟨rfl,by show r.length<=sizeLine;rw[<-hl];exact i.1,a.bk _ _ c,p.keeps a.bk,g.keeps a.bk,λh2 y v=>j _ _ _ _ _ _ _ _ a v i.2⟩
end
def excAt(a:Addr)(C:Value)(h:Heap):Prop:=∃o,h.get? a=some o/\o.cls=C
structure n9(K:Frag)(C:Addr):Prop where
 ga:findIn K (.ref C) "__getattribute__"=some (some (.builtin "BaseException.__getattribute__"))
 gh:findIn K (.ref C) "__getattr__"=some none
 fc:findIn K (.ref C) "__class__"=some (some (.builtin "object.__class__"))
 fg:specialIn K (.builtin "object.__class__") "__get__"=some (some (.builtin "getset_descriptor.__get__"))
 ft:takesIn K (.builtin "object.__class__")=some true
 mo:mroIn K C (.type "object")=some true
 mb:mroIn K C (.type "BaseException")=some true
 cl:(PySem.W.clsIn K C).isSome=true
section
variable{prog:Program}{w:World}{A:Around}{E:aV}{s:Shared}{K:Frag}{x C:Addr}{ox:Obj}
open PySem.W Builtin Builtin.ObjectAttr in
theorem Qm{M:Model}{h:Heap}{name:Str}{a g:Value}(X:K.In h)(h1:findIn K (.ref C) name=some (some a))(h2:specialIn K a "__get__"=some (some g))(b:takesIn K a=some true):
  Looks M h (find (.ref x) (.ref C) name) (.bind g a):=by
 have c:=looks_findIn (M:=M) X h1;have L2:Looks M h (getOf (some a)) (some g):=looks_specialIn X h2;have d:=looks_takesIn (M:=M) X b;exact c.andThen (L2.andThen ((show Looks M h (dataDescriptor? (some a) (some g)) (some (g,a)) from d.andThen .now).andThen (Looks.tag .now)))
open PySem.W Builtin Builtin.ObjectAttr Builtin.Getset_descriptor in
theorem O9{R:Result->Shared->Prop}{a:Value}(X:K.In s.heap)(c:Looks (model prog w) s.heap (typeOf (.ref x)) (.ref C))(b:mroIn K C (.type "object")=some true)
  (h:R (.ok (.ret (.ref C))) s):codeAny (model prog w) A (.call (.builtin "getset_descriptor.__get__") ⟨[.builtin "object.__class__",.ref x,a],[]⟩) R s:=by
 obtain⟨d,g,e,t,os⟩:=s;have f:=looks_mroIn (M:=model prog w) X b;refine Dy KF.slot_gs.plain KF.entry_gs (KF.slot_gs.check _ _ _ _ _ _ _ _ KF.type_class (KF.args_gs _ _ _) ?_);unfold Builtin.«getset_descriptor.__get__» descrGet;rw[dga_obj];refine ai (aK ?_);unfold descrGetter descrCheckInstance descrNameAndClass isInstance;simp only[KF.owner_class];repeat lk
 refine⟨Code.quiet_builtin _ η,ji KF.entry_class ?_⟩;unfold Builtin.«object.__class__» shownTypeOf;repeat lk
 exact h
open PySem.W in
theorem O8(Z:n9 K C){Q:Option Value->Shared->Prop}(X:K.In s.heap)(I:excAt x (.ref C) s.heap)(h:Q (some (.ref C)) {s with toks:=s.toks+1}):wpAny (model prog w) A (getAttr? (.ref x) "__class__") Q E s:=by
 obtain⟨f,g,d,t,os⟩:=s;obtain⟨ox,i,hc⟩:=I;have b:Looks (model prog w) f (typeOf (.ref x)) (.ref C):=hc▸(Looks.ld i).andThen .now;have j:=looks_findIn (M:=model prog w) X Z.ga;have L2:=looks_findIn (M:=model prog w) X Z.gh;have k:=Qm (x:=x) (M:=model prog w) X Z.fc Z.fg Z.ft;have l:=looks_mroIn (M:=model prog w) X Z.mb;have m:builtinKind "BaseException.__getattribute__"=some .slot:=η
 have a:splitId "BaseException.__getattribute__"=some ("BaseException","__getattribute__"):=η
 have n:=PySem.F.excAttr_ValueError.ga.bind (.ref x);have c:(Value.builtin "BaseException.__getattribute__" ==Value.builtin "object.__getattribute__")=false:=η
 unfold getAttr? getAttrBy? getAttrBy;refine ai (wpAny_mkText (ai (nM (fV (ai (b.at (ai (j.at ?_))))))));have e:(onTheHeap (Value.ref C)&&Value.builtin "BaseException.__getattribute__" ==Value.builtin "object.__getattribute__")=false:=by rw[c];rfl
 show wpAny _ _ (if (onTheHeap (Value.ref C)&&Value.builtin "BaseException.__getattribute__" ==Value.builtin "object.__getattribute__")=true then _ else _) _ _ _;rw[e,av δ];unfold getAttrByItsOwn hookBefore;refine ai ?_;show wpAny _ _ (typeLookup (.ref C) "__getattr__") _ _ _;refine L2.at ?_;refine ai (nM (fV ?_));unfold callGetattribute boundAndCalled;rw[av θ,n];refine ai (aK ?_);show wpAny _ _ (call (.builtin "BaseException.__getattribute__") [.ref x,.str "__class__" t]) _ _ _;have o:=PySem.F.args_bexc_ga (.ref x) (.str "__class__" t);refine wpAny_call (Dy PySem.F.excAttr_ValueError.ga.plain PySem.F.entry_bexc_ga ?_);simp only[checkBuiltinCall,m,a];refine ai ?_;unfold isInstance;refine ai (b.at (l.at ?_));repeat (any_goals (first|assumption|(with_reducible refine b.at ?_)|(with_reducible refine k.at ?_)|wp_step))
 refine O9 (s:={heap:=f,gens:=g,drawn:=d,toks:=t+1,os:=os}) X b Z.mo ?_;refine aK ?_;show wpAny _ _ (handedOut (.ref C)) _ _ _;exact handed_on rfl (aK h)
open PySem.W in
theorem Su(Z:n9 K C):KitX K (.ref x) (.ref C) (excAt x (.ref C)) where
 ty:=λ_ h _ p=>by
  obtain⟨ox,a,hc⟩:=p;exact hc▸(Looks.ld a).andThen .now
 it:=λ_ _ X _=>by
  have z:=Z.cl;unfold clsIn at z;split at z
  .rename_i l m b c a
   intro A' g i s' k q;unfold isType loadHead;exact ai (wpAny_loadPart (k _ _ (X _ _ a)) (aK q))
  .cases z
 ne:=λh f r o n j X d=>by
  refine Bool.eq_false_iff.mpr λq=>?_;have e:C=f:=Value.ref.inj (beq_iff_eq.mp q);subst e;have z:=Z.cl;unfold clsIn at z;split at z
  .rename_i l m b c a
   have z:=(X _ _ a).symm.trans d;cases z
  .cases z
 ca:=λX p k=>O8 Z X p k
end
abbrev qG(a C:Addr):HO:=.ext (excAt a (.ref C))
theorem EZ:fy X (.builtin "isinstance") (λxs H Q=>∃(a:Addr) (y:V) (C:Addr) (c:Value) (b:Bool),xs=[.ref a,y]/\(∀u,RelV y u->u=c)/\H a=some (qG a C)/\n9 X.K C/\kitOne X.K (.ref C) c=some b/\Q (.bl b) H):=by
 intro ae s σ H xs k Q I r h;obtain⟨a,y,C,c,b,rfl,f,g,Z,e,q⟩:=h;obtain⟨u,l,rfl,i,d⟩:=vals2 r;cases i;cases f _ d;exact jg (Su Z) I.fD (I.ar a _ g).1 e (λz=>nomatch z) λj=>⟨.bl b,H,I.tok j,rfl,q⟩
abbrev Cx.mu(X:Cx)(e:Addr):Cx:={X with A:=X.A.mark (some (.ref e)),calm:=false,xe:=λ_ _=>False}
abbrev Cx.tried(X:Cx)(pn:aZ)(E:aV):Cx:={X with pn:=pn,xe:=E}
section
variable{ae:aZ}{σ:St}{H:Hp}{s:Shared}
theorem Inv.mu(I:Inv X ae σ H s)(e:Addr):Inv (X.mu e) ae σ H s:=
 ⟨⟨I.ok.mod,I.ok.kind,I.ok.glob,I.ok.blt,I.ok.above,I.ok.inj,I.ok.has,I.ok.ou,(λz=>nomatch z),I.ok.frames,I.ok.stk,I.ok.wD,I.ok.bs,I.ok.kg,I.ok.o8,I.ok.qH,I.ok.i_,I.ok.ly⟩,I.os,I.bare,I.base,I.loc,I.cell,I.free,I.gA,I.pin,I.ar,I.len⟩
theorem Inv.UR{e:Addr}(ok:X.Ok)(I:Inv (X.mu e) ae σ H s):Inv X ae σ H s:=
 ⟨ok,I.os,I.bare,I.base,I.loc,I.cell,I.free,I.gA,I.pin,I.ar,I.len⟩
theorem Inv.tried(I:Inv X ae σ H s)(E:aV):Inv (X.tried (X.pn++ae) E) [] σ H s:=
 ⟨⟨I.ok.mod,I.ok.kind,I.ok.glob,I.ok.blt,I.ok.above,I.ok.inj,I.ok.has,I.ok.ou,I.ok.hd,I.ok.frames,I.ok.stk,I.ok.wD,I.ok.bs,I.ok.kg,I.ok.o8,I.ok.qH,I.ok.i_,I.ok.ly⟩,I.os,I.bare,I.base,I.loc,I.cell,I.free,I.gA,
  λp a=>I.pin p ((bR.mp a).elim id λz=>absurd z θ),I.ar,I.len⟩
theorem Inv.lJ{E:aV}{a:aZ}(ok:X.Ok)(I:Inv (X.tried (X.pn++ae) E) a σ H s):Inv X ae σ H s:=
 ⟨ok,I.os,I.bare,I.base,I.loc,I.cell,I.free,I.gA,λp b=>I.pin p (nH _ b),I.ar,I.len⟩
theorem SP.lJ{E:aV}{a:aZ}{D:Ends}{f:Flow}(ok:X.Ok)(h:SP (X.tried (X.pn++ae) E) a D f s):SP X ae D f s:=by
 cases f with
 |next=>obtain⟨σ',H',I,q⟩:=h;exact⟨σ',H',I.lJ ok,q⟩
 |brk=>obtain⟨σ',H',I,q⟩:=h;exact⟨σ',H',I.lJ ok,q⟩
 |cont=>obtain⟨σ',H',I,q⟩:=h;exact⟨σ',H',I.lJ ok,q⟩
 |ret u=>obtain⟨v,σ',H',I,r,q⟩:=h;exact⟨v,σ',H',I.lJ ok,r,q⟩
theorem Inv.Yq{a:Addr}{f:Heap->Prop}(I:Inv X ae σ H s)(l:∀b o,X.s₀.heap.get? b=some o->X.H₀ b=none->b≠a)(nl:X.env.locals≠a)(j:∀x c,X.env.cells.lookup x=some c->c≠a)(np:∀p∈X.pn++ae,p.1≠a)
  (d:H a=none)(g:f s.heap)(k:∃o,s.heap.get? a=some o)(st:∀h1 h2:Heap,f h1->(∀o,h1.get? a=some o->h2.get? a=some o)->f h2):Inv X ae σ (ax H a (.ext f)) s:=by
 refine⟨I.ok,I.os,I.bare,⟨I.base.keep,I.base.slot,λb o q n g=>?_,I.base.there,λb xs q=>?_,λb o u q=>?_,λb ps q=>?_⟩,I.loc,I.cell,?_,λx c e=>?_,λp h=>?_,λb o q=>?_,I.len⟩
 .rw[aY (l b o q n)];exact I.base.free b o q n g
 .have z:=I.base.tups b xs q
  rw[aY (di z d)];exact z
 .have z:=I.base.fQ b o u q
  rw[aY (di z d)];exact z
 .obtain⟨m,z⟩:=I.base.gq b ps q
  exact⟨m,by rw[aY (di z d)];exact z⟩
 .rw[aY nl];exact I.free
 .rw[aY (j x c e)];exact I.gA x c e
 .obtain⟨e,n,r⟩:=I.pin p h
  exact⟨e,by rw[aY (np p h)];exact n,r⟩
 .by_cases i:b=a
  .subst i
   rw[dZ] at q;cases q;exact⟨g,k,st⟩
  .rw[aY i] at q
   exact(I.ar b o q).stay (λ_ _ _ r=>r) (λc r=>by rw[aY (di r d)];exact r) λc xs r=>by rw[aY (di r d)];exact r
theorem Inv.MU{h':Heap}{E:Nat}{l:ay}(I:Inv X ae σ H s)(a:SameBut X.env.locals s.heap h')(r:h'.Ns X.env.locals l):Inv X ae (replicate X.N.length none) H {s with heap:=h',toks:=E}:=by
 have kZ:=I.kZ;obtain⟨m,t,_⟩:=id I.loc;obtain⟨B,_,_,u,_⟩:=id t;have up:∀b o,X.s₀.heap.get? b=some o->b≠X.env.locals:=λb o e=>bG (dj (aW e) I.ok.above);refine⟨I.ok,I.os,I.bare,⟨λb o e n h f=>?_,λb o e n h f=>?_,I.base.free,λb o e f=>?_,I.base.tups,I.base.fQ,I.base.gq⟩,⟨_,r,λj y C g i D=>?_⟩,λy c e=>?_,I.free,I.gA,λp v=>?_,λb w e=>?_,θ⟩
 .exact(a.2 b (up b o e)).trans (I.base.keep b o e n h f)
 .obtain⟨x,g⟩:=I.base.slot b o e n h f
  exact⟨x,(a.2 b (up b o e)).trans g⟩
 .obtain⟨o',g⟩:=I.base.there b o e f
  exact⟨o',(a.2 b (up b o e)).trans g⟩
 .rw[zx] at i
  split at i<;>cases i
 .obtain⟨k,z⟩:=I.cell y c e
  exact⟨k,z.sameBut a (kZ y c e)⟩
 .obtain⟨e,n,ne,A,d⟩:=I.pin p v
  exact⟨(a.2 p.1 ne).trans e,n,ne,A,d⟩
 .refine(I.ar b w e).stay (λc k hc q=>(a.2 c ?_).trans q) (λ_ q=>q) λ_ _ q=>q
  rintro rfl;rcases hc with rfl|hc
  .rw[I.free] at e;cases e
  .rw[I.free] at hc;cases hc
end
section
variable{P:Program}{w:World}{outer:Fh}{H H':Hp}{s s':Shared}{a:Addr}{C a0:Value}{B h'':Heap}
theorem gY.move(F:gY P w outer H H' s s' a C)(h:∀b o,s.heap.get? b=some o->H b=none->b∉frs outer->B.get? b=some o)(th:∀b o,s.heap.get? b=some o->b∉frs outer->∃o',B.get? b=some o')(ar:c8 P w H' B)
  (fl:FlyingW B outer a C a0 s'.heap)(d:FlyingW B outer a C a0 h'')(up:s'.heap.UpToSlots h''):gY P w outer H H' s {s' with heap:=h''} a C:=by
 refine⟨F.os,F.bare,λb o q g=>?_,F.free,F.tups,F.fQ,F.gq,B,a0,h,th,ar,d⟩;obtain⟨j,e⟩:=F.slot b o q g;obtain⟨_,o',c,hd⟩:=fl.2.2.1.mem g;rw[e] at c;cases c;obtain⟨f,i⟩:=up b _ e hd;exact⟨f,i⟩
theorem gY.ne(F:gY P w outer H H' s s' a C){b:Addr}{o:Obj}(q:s.heap.get? b=some o)(n:H b=none):b≠a:=by
 rintro rfl;obtain⟨B,a0,f,th,ar,fl⟩:=F.fl;obtain⟨h,vs,g,_,hd,_⟩:=fl.first
 by_cases e:b∈frs outer
 .obtain⟨_,o',c,d⟩:=fl.2.2.1.mem e
  rw[g] at c;cases c;exact d _ hd
 .have z:=f b o q n e
  rw[fl.2.1] at z;cases z
end
def Yd(K:Frag)(len i:Nat)(D:Addr)(tb:List (Addr×Obj)->(aV)->XK->TS)(th:TS):TS:=λDn σ H=>
 ∀(pn:aZ) (E:aV),tb pn E (λC _ H'=>∃c:Addr,C=.ref c/\exmOne K (.ref c) (.ref D)=some true/\∀(a:Addr) (σ':St),σ'.length=len->H' a=none->th {nx:=λ_ _=>False,rt:=Dn.rt} (σ'.set i (some (.ref a))) (ax H' a (qG a c))) Dn σ H
section
variable{D:Addr}{i:Nat}{n cn:Str}{b₀:Stmt}{suite body:FK}{tb:List (Addr×Obj)->(aV)->XK->TS}{th:TS}{np hpos pos:Pos}
theorem VQ(hex:X.ex=[])(j:X.stack=X.env::X.outer)(Z:X.env.frame=some X.env.locals)(hN:X.N.Nodup)(hi:X.N[i]? =some n)(hl:X.env.scope.names.lookup n=some .local)(hm:X.mg cn=some (.ref D))
  (hb:∀(pn:aZ) (E:aV) (Ex:XK),Passes (bU X.prog X.w) (X.tried pn E) Ex->dF (X.tried pn E) body (tb pn E Ex))(hh:∀e:Addr,dF (X.mu e) (b₀::suite) th)
  (hg:Gl X cn:=by rfl)(hdb:(cn==("__debug__":Str))=false:=by decide):
  PS X (.Try body [.ExceptHandler (some (.Name cn np)) (some n) (b₀::suite) hpos] [] [] pos) (Yd X.K X.N.length i D tb th):=by
 intro ae s σ H Dn I h
 refine wpAny_Try_except ?_
 refine jA (hb (X.pn++ae) _ _ ?_ [] s σ H Dn (I.tried _) (h _ _)) (λf P q=> ?_) λe P q=>q
 .intro ZW σ' H1 V e s' I1 hx
  obtain⟨a,C,H',rfl,F,c,rfl,Q,Rt⟩:=hx
  have y:Inv X ae σ' H1 V:=I1.lJ I.ok
  have F:gY X.prog X.w X.stack H1 H' V s' a (.ref c):=F
  obtain⟨B,a0,kb,R,ar,fl⟩:=F.fl
  have Qn:=fl
  rw[j] at fl
  refine wpAny_looks_onW (by rw[<-j];exact I.ok.frames) Z fl λh₄ g A=> ?_
  refine wpAny_landsW g λl d G=> ?_
  have S:gY X.prog X.w X.stack H1 H' V {s' with heap:=l} a (.ref c):=F.move kb R ar Qn (by rw[j];exact d) (A.trans G)
  have J5:Inv X ae σ' H' {s' with heap:=l}:=y.Ah S.os S.un S.ar S.bare λb z=>absurd z θ
  have LT:PySem.W.Looks (model X.prog X.w) l (typeOf (.ref a)) (.ref c):=by
   obtain⟨ob,J,hc⟩:=d.there
   exact hc▸(PySem.W.Looks.ld J).andThen .now
  refine wpAny_handleBy_cons (codeAny_handlers_test (uf (X:=X.mu a) (J5.mu a) hg hm ((PySem.W.exm_one (J5.fD) LT Q).here ?_) hdb)) (by intro q;cases q)
  refine codeAny_handlers_suite_as ?_
  refine lands_againW d λr t L=> ?_
  have M:gY X.prog X.w X.stack H1 H' V {s' with heap:=r} a (.ref c):=S.move kb R ar (by rw[j];exact d) (by rw[j];exact t) L
  have J6:Inv X ae σ' H' {s' with heap:=r}:=y.Ah M.os M.un M.ar M.bare λb z=>absurd z θ
  obtain⟨ob,J,T⟩:=t.there
  have J7:Inv X ae σ' (ax H' a (qG a c)) {s' with heap:=r}:=by
   refine J6.Yq (λb o q n=> ?_) ?_ (λx c' e=> ?_) (λp hp=> ?_) M.new ⟨ob,J,T⟩ ⟨ob,J⟩ λh1 h2 p k=> ?_
   .obtain⟨sl,e⟩:=y.base.any q n (by rw[hex];simp)
    exact M.ne e (y.base.free b o q n (by rw[hex];simp))
   .obtain⟨m,⟨o,_,_,e,_⟩,_⟩:=id y.loc
    exact M.ne e y.free
   .obtain⟨v,o,e,_⟩:=y.cell x c' e
    exact M.ne e (y.gA x c' (by assumption))
   .obtain⟨e,n,_⟩:=y.pin p hp
    exact M.ne e n
   .obtain⟨o,e,ec⟩:=p
    exact⟨o,k o e,ec⟩
  refine rC (X:=X.mu a) (J7.mu a) hN hi (.inl hl) (v:= .ref a) rfl (λU J8=> ?_) (.inr hl)
  refine jA (hh a ae U _ _ _ J8 (Rt a σ' y.len F.new)) (λfl O q=> ?_) λe O z=>False.elim z
  cases fl with
  |next=>obtain⟨_,_,_,z⟩:=q;exact False.elim z
  |brk=>obtain⟨_,_,_,z⟩:=q;exact False.elim z
  |cont=>obtain⟨_,_,_,z⟩:=q;exact False.elim z
  |ret u=>
   obtain⟨v,σ2,H2,Y,rv,z⟩:=q
   have Y:Inv X ae σ2 H2 O:=Y.UR I.ok
   obtain⟨m,hn,_⟩:=id Y.loc
   exact wpAny_nameGoes hl hn (by rw[I.ok.kind];rfl) λh' m' hn' hs=>⟨v,_,H2,Y.MU hs hn',rv,z⟩
 .cases f with
  |next=>exact vm (SP.lJ I.ok q)
  |brk=>exact SP.lJ I.ok q
  |cont=>exact SP.lJ I.ok q
  |ret u=>exact SP.lJ I.ok q
end
section
variable{P:Program}{w:World}{K:Frag}{mg:ay}{base:Heap}
def aC(P:Program)(w:World)(K:Frag)(mg:ay)(base:Heap)(k:Nat)(x:Str)(ps:Ap)(sp:Sp):Prop:=
 ∃f fd,gx P w K mg base (bU P w) k f fd ps sp/\Binds K fd ps []/\keepIn K (.ref f)=true/\mg x=some (.ref f)
theorem aC.mono{j k:Nat}{x:Str}{ps:Ap}{sp:Sp}(F:aC P w K mg base j x ps sp)(h:j<=k):aC P w K mg base k x ps sp:=by
 obtain⟨f,fd,F,r⟩:=F;exact⟨f,fd,F.mono h,r⟩
theorem TopD.fnX{x:Str}{st:Stmt}{N ps:Ap}{k:Nat}{sp:Sp}(T:TopD K mg x st ps)(S:bB N ps (aO st))(len:∀vs H Q E,sp vs H Q E->vs.length=ps.length)
  (c:∀(f:Addr) (a:Value) (A:Around) (outer:Fh) (s:Shared) (H:Hp) (vs:Bn) (Q:VK) (E:XK),eL k (A.deeper (envOfC x (aO st) s.heap.objs.size f a))->sp vs H Q E->
   ∃t,dF (cU (bU P w) P w K mg base N x (aO st) f a A outer s H E) (ir st) t/\t {nx:=λ_ H'=>Q .aD H',rt:=Q} (start N vs) H):aC P w K mg base (k+1) x ps sp:=by
 obtain⟨f,fd,F,b,m⟩:=T;have kp:=F.kp;obtain⟨i,j,kV,doc,pm,an,a,ct,g,rfl,lk,d⟩:=F.ex;exact⟨f,_,Gw lk d S len λA outer s H vs Q E h e=>c f a A outer s H vs Q E h e,b,kp,m⟩
structure lZ(k:Nat)(A:Around):Prop where
 dp:A.depth+3*k+5<recursionLimit
 un:A.units+16*k+200<cLine
theorem lZ.of{k:Nat}{A:Around}{h:Option Value}(r:eL k A):lZ k (A.mark h):=⟨r.dp,r.un⟩
def qm(P:Program)(w:World)(K:Frag)(mg:ay)(base:Heap)(k:Nat)(x:Str)(ps:Ap)(sp:Sp):Prop:=
 ∃f fd,(∀vs H Q E,sp vs H Q E->vs.length=ps.length)/\(∀(A:Around) (outer:Fh) (s:Shared) (H:Hp) (args:Args) (us:BM) (vs:Bn) (Q:VK) (E:XK),lZ k A->ql P w K mg base A outer s H->BindsTo s fd args (ps.zip us)->Vals vs us->sp vs H Q E->
  codeAny (model P w) A (.call (.ref f) args) (CR qi outer P w H s Q E) s)/\Binds K fd ps []/\keepIn K (.ref f)=true/\mg x=some (.ref f)
abbrev Cx.loud(X:Cx)(A:Around):Cx:={X with A:=A,calm:=false,xe:=λ_ _=>False}
theorem TopD.Qo{x:Str}{st:Stmt}{N ps:Ap}{k:Nat}{sp:Sp}(T:TopD K mg x st ps)(S:bB N ps (aO st))(len:∀vs H Q E,sp vs H Q E->vs.length=ps.length)
  (g:∀(f:Addr) (c:Value) (A:Around) (outer:Fh) (s:Shared) (H:Hp) (vs:Bn) (Q:VK) (E:XK),lZ k (A.deeper (envOfC x (aO st) s.heap.objs.size f c))->sp vs H Q E->
   ∃t,dF ((cU qi P w K mg base N x (aO st) f c {A with handled:=Option.none} outer s H E).loud (A.deeper (envOfC x (aO st) s.heap.objs.size f c))) (ir st) t/\t {nx:=λ_ H'=>Q .aD H',rt:=Q} (start N vs) H):qm P w K mg base (k+1) x ps sp:=by
 obtain⟨f,fd,F,b,m⟩:=T;have kp:=F.kp;obtain⟨oc,od,kV,doc,pm,an,c,ct,M,rfl,lk,l⟩:=F.ex;refine⟨f,_,len,λA outer s H args O vs Q E p d R r j=>?_,b,kp,m⟩;have hl:=len _ _ _ _ j;have G:K.In s.heap:=d.mod.qQ.keeps λb o e=>(d.bs b o e).1;have lim:s.heap.NoLimit:=d.mod.nolimit.keeps λb o e=>(d.bs b o e).1;have h:∀y∈ps.zip O,(aO st).names.lookup y.1=some .local\/((aO st).names.lookup y.1=some .cell/\((cellsFrom (s.heap.objs.size+1) (aO st).names []).lookup y.1).isSome=true):=λ⟨n,v⟩ U=>by
  rcases S.par n (of_mem_zip U).1 with q|q
  .exact .inl q
  .exact .inr ⟨q,cellsFrom_some _ _ _ (.inl q)⟩
 refine codeAny_call_function (by have:=p.dp;omega) (G _ _ lk) rfl S.co S.gen rfl (codeRec_of G l) (R _ _ _ _ ?_);refine wpAny_newFunctionEnv_cells S.kind h λenv W B L=>?_;subst W;refine⟨lim.keeps L.toInCall.keep,codeAny_func ?_⟩;have C:lZ k (A.deeper (envOfC x (aO st) s.heap.objs.size f c)):=⟨by have:=p.dp;show A.depth+1+3*k+5<_;omega,by have:=p.un;show A.units+3+16*k+200<_;omega⟩;obtain⟨t,X,Y⟩:=g f c A outer s H vs Q E C j;have Z:ql P w K mg base {A with handled:=Option.none} outer s H:=⟨d.frames,d.mod,d.bs,d.kg,d.i_,d.ly,d.ar,d.bare⟩;have a:Inv (cU qi P w K mg base N x (aO st) f c {A with handled:=Option.none} outer s H E) [] (start N vs) H B:=Hu S rfl Z hl r L;have I:Inv ((cU qi P w K mg base N x (aO st) f c {A with handled:=Option.none} outer s H E).loud (A.deeper (envOfC x (aO st) s.heap.objs.size f c))) [] (start N vs) H B:=
  ⟨⟨a.ok.mod,a.ok.kind,a.ok.glob,a.ok.blt,a.ok.above,a.ok.inj,a.ok.has,a.ok.ou,(λz=>nomatch z),Around.frames_deeper d.frames,a.ok.stk,a.ok.wD,a.ok.bs,a.ok.kg,a.ok.o8,a.ok.qH,a.ok.i_,a.ok.ly⟩,a.os,a.bare,a.base,a.loc,a.cell,a.free,a.gA,a.pin,a.ar,a.len⟩
 refine jA (X [] B (start N vs) H _ I Y) (λfl s' i=>?_) λe s' i=>False.elim i;have fin:∀{σ':St} {H':Hp} {v:V} {u:Value},Inv ((cU qi P w K mg base N x (aO st) f c {A with handled:=Option.none} outer s H E).loud (A.deeper (envOfC x (aO st) s.heap.objs.size f c))) [] σ' H' s'->RelV v u->Q v H'->CE outer P w H s Q u s':=
  λ {σ' H' v u} J D q=>⟨v,H',J.os,J.bare,J.base,J.ar,D,q⟩
 cases fl with
 |ret u=>
  obtain⟨v,σ',H',J,D,q⟩:=i;exact fin J D q
 |next=>
  obtain⟨σ',H',J,q⟩:=i;exact fin (v:=V.aD) (u:=Value.none) J rfl q
 |brk=>
  obtain⟨_,_,_,q⟩:=i;exact False.elim q
 |cont=>
  obtain⟨_,_,_,q⟩:=i;exact False.elim q
end
section
variable{k:Nat}{x:Str}{ps:Ap}{sp:Sp}{e fe:Expr}{es:DD}{t:TA}{tf:TE}{p pos:Pos}{E:XK}
theorem UZ(F:aC X.prog X.w X.K X.mg X.base k x ps sp)(d:eL k X.A)(g:Passes (bU X.prog X.w) X E)(h:PA X (e::es) t)(i:Gl X x:=by rfl)(a:(x==("__debug__":Str))=false:=by decide)
  (j:starEach (e::es) X.env=(false,eval e X.env)::starEach es X.env:=by rfl)(c:(backTo pos (starEach es X.env)).any (·.1)=false:=by rfl):
  PE X (.Call (.Name x p) (e::es) [] pos) (CS sp [] E t):=by
 obtain⟨f,fd,F,b,kp,m⟩:=F;exact UW F d i m kp b .nil g h a j c
theorem UX(F:qm X.prog X.w X.K X.mg X.base k x ps sp)(n:lZ k X.A)(o:PA X (e::es) t)(v:Gl X x:=by rfl)(g:(x==("__debug__":Str))=false:=by decide)
  (y:starEach (e::es) X.env=(false,eval e X.env)::starEach es X.env:=by rfl)(i:(backTo pos (starEach es X.env)).any (·.1)=false:=by rfl):
  PE X (.Call (.Name x p) (e::es) [] pos) (CS sp [] E0 t):=by
 obtain⟨f,fd,len,F,b,kp,m⟩:=F;intro ae s σ H Q I h;refine kO (uf I v m ?_ g);refine callWith_K (h₀:=X.base) I.ok.mod.qQ kp (aQ (o pos ae s σ H _ I h) λa j ⟨vs,H1,d,r,q⟩=>⟨d.fD,?_⟩) y i;have l:Vals (vs++[]) (a++[]):=r.append .nil;have hl:(a++[]).length=ps.length:=by rw[<-l.length];exact len _ _ _ _ q
 refine wpAny_call (qe (F X.A X.stack j H1 ⟨a,[]⟩ (a++[]) (vs++[]) Q E0 n d.F9 (b j a d.fD hl) l q) λr s' c=>?_);cases r with
 |error e=>exact False.elim c
 |ok fl=>
  cases fl with
  |ret u=>exact d.after c
  |next=>exact False.elim c
  |brk=>exact False.elim c
  |cont=>exact False.elim c
end
end L2
namespace SS
theorem UO(t:SetTable)(n:Nat):(t.orStandIn n).led=t.led:=by
 unfold SetTable.orStandIn;split<;>rfl
theorem UP(t:SetTable)(n:Nat)(h:t.plain=false):(t.orStandIn n).plain=false:=by
 unfold SetTable.orStandIn;split
 .exact h
 .rfl
theorem SE(t:SetTable)(es:Array (Int×Value))(h:Int)(x:Value):(layNew t es h x).2.1.led=t.led:=by
 unfold layNew;split
 .exact UO _ _
 .rfl
theorem SG(t:SetTable)(es:Array (Int×Value))(h:Int)(x:Value)(a:t.plain=false):(layNew t es h x).2.1.plain=false:=by
 unfold layNew;split
 .exact UP _ _ a
 .rfl
theorem HJ{mask finger moves:Nat}{led plain:Bool}{a:Array Int}{t:SetTable}{o:Array Nat}(h:SetTable.laid mask finger moves led plain a=some (t,o)):t.led=led/\t.plain=plain:=by
 unfold SetTable.laid at h;obtain⟨w,_,h⟩:=Option.bind_eq_some_iff.mp h;cases h;exact⟨rfl,rfl⟩
theorem Wb(t:SetTable)(es:Array (Int×Value))(n:Nat):(relayAll t es n).2.1.led=t.led:=by
 unfold relayAll;split
 .rename_i a o e
  dsimp only;split
  .exact(HJ e).1
  .rfl
 .rfl
theorem Wc(t:SetTable)(es:Array (Int×Value))(n:Nat)(a:t.plain=false):(relayAll t es n).2.1.plain=false:=by
 unfold relayAll;split
 .rename_i b o e
  dsimp only;split
  .exact(HJ e).2.trans a
  .rfl
 .rfl
noncomputable def strOf(v:Value):Str:=match v with|.str x _=>x|_=>⟨#[]⟩
def fZ(prog:Program)(w:World)(h:Heap)(a:Addr)(es:Array (Int×Value)):Prop:=
 ∃o ep t,h.get? a=some o/\o.ExactSet/\o.data=.set es ep t/\ElemsOf (PySem.strKind prog w) es.toList/\(es.toList.map λe=>strOf e.2).Nodup/\es.size<scanBound/\t.fits es.size=true/\
  t.led= !w.params.followText "set-order"/\(es.size≠0->t.plain=false)
section
variable{prog:Program}{w:World}{A:Around}{E:aV}{s:Shared}
theorem AR{l:List (Int×Value)}(h:ElemsOf (PySem.strKind prog w) l){e:Int×Value}(a:e∈l):∃t,e.2=.str (strOf e.2) t:=by
 obtain⟨⟨k,b,_⟩,_⟩:=h e a;obtain⟨t,q⟩:=Value.isStrOf_shape b;exact⟨t,by rw[q];rfl⟩
theorem Hw{e:Int×Value}{x:Str}(h:∃t,e.2=.str (strOf e.2) t):(PySem.strKind prog w).is x e.2=decide (strOf e.2=x):=by
 obtain⟨t,q⟩:=h;rw[q];show Value.isStrOf x (.str (strOf e.2) t)=decide (strOf (.str (strOf e.2) t)=x);by_cases a:strOf e.2=x
 .rw[dg (by rw[<-a];rfl),a]
  simp[Value.isStrOf]
 .rw[d8 (by exact a)]
  simp only[Value.isStrOf];simpa[beq_iff_eq] using λz=>a (by first|exact z.symm|exact z)
theorem add{a:Addr}{es:Array (Int×Value)}{x:Str}{r:Tok}{Q:Bool->Shared->Prop}(hS:fZ prog w s.heap a es)(M:es.size+1<scanBound)
  (h:∀h' l b,SameBut a s.heap h'->fZ prog w h' a l->(x∈es.toList.map (λe=>strOf e.2)->l=es)->(x∉es.toList.map (λe=>strOf e.2)->l.toList.Perm (es.toList++[((PySem.strKind prog w).hash x,.str x r)]))->Q b {s with heap:=h'}):
  wpAny (model prog w) A (setAddHashed a (.str x r) ((PySem.strKind prog w).hash x)) Q E s:=by
 obtain⟨o,ep,t,U,hex,hd,n,V,hb,hf,v,hpl⟩:=hS
 have D:(PySem.strKind prog w).is x (.str x r)=true:=by show Value.isStrOf x (.str x r)=true;simp[Value.isStrOf]
 have N:(Value.str x r).scannable=true:=rfl
 unfold setAddHashed setAddHashedIn
 refine fV (ai (rR U hd hf ?_))
 dsimp only
 rw[byScan_of N hb n]
 simp only[↓reduceIte]
 unfold setAddByScan
 refine ai ?_
 refine ai (lM ?_)
 refine ai (wpAny_setScan_of D U hd hf n ?_)
 cases hr:List.findIdx? (λe=>(PySem.strKind prog w).is x e.2) es.toList with
 |some j=>
  dsimp only
  obtain⟨hj,W,_⟩:=List.findIdx?_eq_some_iff_getElem.mp hr
  have hin:x∈es.toList.map (λe=>strOf e.2):=by
   rw[Hw (AR n (jV hj))] at W
   exact aP.mpr ⟨_,jV hj,fu W⟩
  refine aK (aK ?_)
  have e:s={s with heap:=s.heap}:=by cases s;rfl
  rw[e]
  exact h s.heap es _ (SameBut.refl a s.heap) ⟨o,ep,t,U,hex,hd,n,V,hb,hf,v,hpl⟩ (λ_=>rfl) λz=>absurd hin z
 |none=>
  dsimp only
  have F:x∉es.toList.map (λe=>strOf e.2):=λz=>by
   obtain⟨e,he,q⟩:=aP.mp z
   have:=List.findIdx?_eq_none_iff.mp hr e he
   rw[Hw (AR n he),dg q] at this
   exact Bool.noConfusion this
  have Q7:∀(b:Bool) {f:Shared} {G:Unit->Shared->Prop},G () f->wpAny (model prog w) A (match b with|true=>rule "set.scan.the-table-gave-way"|false=>pure ()) G E f:=
   λb f G u=>by cases b<;>first|exact aK u|exact lM u
  have d:=layNew_perm t es ((PySem.strKind prog w).hash x) (.str x r)
  have k:=layNew_fits t es ((PySem.strKind prog w).hash x) (.str x r)
  have C:=SE t es ((PySem.strKind prog w).hash x) (.str x r)
  have X:=SG t es ((PySem.strKind prog w).hash x) (.str x r)
  generalize hL:layNew t es ((PySem.strKind prog w).hash x) (.str x r)=L at d k C X ⊢
  obtain⟨c,t1,p,Zj⟩:=L
  dsimp only at d k C X ⊢
  rw[Array.toList_push] at d
  have H:ElemsOf (PySem.strKind prog w) c.toList:=(n.push D N).perm d
  have Y:((es.toList++[((PySem.strKind prog w).hash x,Value.str x r)]).map λe=>strOf e.2).Nodup:=by
   rw[c_]
   refine jX.mpr ⟨V,θ,λy hy z hz=> ?_⟩
   have hz':z=x:=by simpa[strOf] using hz
   rw[hz']
   rintro rfl
   exact F hy
  have I:(c.toList.map λe=>strOf e.2).Nodup:=(d.map _).nodup_iff.mpr Y
  have Z:c.size=es.size+1:=by rw[<-iB,d.length_eq,eE,iB];rfl
  have B:c.size<scanBound:=by rw[Z];exact M
  refine ai (Q7 _ ?_)
  have fin:∀{g:Bool->Sem Unit} {R:Option Bool->Shared->Prop},(∀(b:Bool) (f:Shared) (G:Unit->Shared->Prop),G () f->wpAny (model prog w) A (g b) G E f)->(∀h',Q true {s with heap:=h'}->R (some true) {s with heap:=h'})->
    ∀i:SetTable,i.fits c.size=true->i.led=t.led->i.plain=false->
    wpAny (model prog w) A (do
     storeSet a c i
     if (!p&&i.tooFull)=true then do
       g (relayAll i c (SetTable.grown c.size)).2.2
       storeSet a (relayAll i c (SetTable.grown c.size)).1 (relayAll i c (SetTable.grown c.size)).2.1
       pure (some true)
      else pure (some true)) R E s:=λ {g R} hg hR i hf2 hl2 hp2=>by
   have go:∀h' l,SameBut a s.heap h'->fZ prog w h' a l->l.toList.Perm c.toList->R (some true) {s with heap:=h'}:=λh' l q1 q2 q3=>hR h' (h h' l true q1 q2 (λz=>absurd z F) λ_=>q3.trans d)
   refine ai (wpAny_storeSet_of U hd ?_ (zA B))
   have O:(s.heap.update a (Obj.putSet c i)).get? a=some {o with data:= .set c (ep+1) i}:=by
    have:=j6 (Obj.putSet c i) U (by rw[putSet_of c i hd];rfl)
    rw[putSet_of c i hd] at this;exact this
   have J:=SameBut.update s.heap a (Obj.putSet c i)
   split
   .have K:=relayAll_perm i c (SetTable.grown c.size)
    have P:=relayAll_fits i c (SetTable.grown c.size)
    have S:=Wb i c (SetTable.grown c.size)
    have T:=Wc i c (SetTable.grown c.size) hp2
    generalize Zm:relayAll i c (SetTable.grown c.size)=Rl at K P S T ⊢
    obtain⟨m,t3,Zk⟩:=Rl
    dsimp only at K P S T ⊢
    have hsz:m.size=c.size:=by rw[<-iB,K.length_eq,iB]
    have hb2:m.size<scanBound:=by rw[hsz];exact B
    refine ai (hg _ _ _ ?_)
    refine ai (wpAny_storeSet_of O rfl ?_ (zA hb2))
    have Q6:((s.heap.update a (Obj.putSet c i)).update a (Obj.putSet m t3)).get? a=some {o with data:= .set m (ep+1+1) t3}:=by
     have:=j6 (Obj.putSet m t3) O (by rw[putSet_of (ep:=ep+1) (t:=i) m t3 rfl];rfl)
     rw[putSet_of (ep:=ep+1) (t:=i) m t3 rfl] at this;exact this
    refine aK (go _ m (J.trans (SameBut.update _ a _)) ⟨_,_,_,Q6,hex,rfl,H.perm K,(K.map _).nodup_iff.mpr I,hb2,P,?_,λ_=>T⟩ K)
    rw[S,hl2];exact v
   .exact aK (go _ c J ⟨_,_,_,O,hex,rfl,H,I,B,hf2,by rw[hl2];exact v,λ_=>hp2⟩ .rfl)
  split
  .refine ai ?_
   rw[hashByValue_scannable 8 N]
   refine aK ?_
   simp only[show plainKind (Value.str x r)=false from rfl,j5,gS]
   refine fin ?_ ?_ {t1 with plain:=false} (SetTable.fits_plain_off k) C rfl
   .intro b f G u;cases b<;>first|exact aK u|exact lM u
   .exact λh' u=>aK u
  .rename_i K
   refine ai (aK ?_)
   simp only[↓reduceIte]
   refine fin ?_ ?_ t1 k C (by simpa using K)
   .intro b f G u;cases b<;>first|exact aK u|exact lM u
   .exact λh' u=>aK u
end
abbrev names(es:Array (Int×Value)):Ap:=es.toList.map λe=>strOf e.2
theorem fZ.keeps{prog:Program}{w:World}{h h':Heap}{a:Addr}{es:Array (Int×Value)}(S:fZ prog w h a es)(k:∀o,h.get? a=some o->h'.get? a=some o):fZ prog w h' a es:=by
 obtain⟨o,ep,t,b,r⟩:=S;exact⟨o,ep,t,k o b,r⟩
section
variable{prog:Program}{w:World}{A:Around}{R:Result->Shared->Prop}{I:Addr}{fp wr:D1}{G:Array GenState->Array GenState->Prop}{n:Nat}{P:Nat->Value->Prop}{St:Nat->Shared->Prop}
theorem loop(W:WalksS prog w A.in1 I fp wr G n P St)(S:Addr)(q:S∉fp)(val:Nat->Str)(r:∀i v,P i v->∃t,v=.str (val i) t)(m:n+1<scanBound):
  ∀(k i:Nat) (s:Shared) (es:Array (Int×Value)),n - i=k->i<=n->St i s->fZ prog w s.heap S es->es.size<=i->(∀x,x∈names es↔∃j,j<i/\val j=x)->
   (∀s' c,Moved (S::wr) G s s'->fZ prog w s'.heap S c->c.size<=n->(∀x,x∈names c↔∃j,j<n/\val j=x)->R (.ok (.ret .none)) s')->
   codeAny (model prog w) A (.builtin "set.update.loop" ⟨[.ref S,.ref I],[]⟩) R s:=by
 have u:S∉wr:=λh=>q (W.sub _ h);have f:∀b∈wr,b∈S::wr:=λb m=>bq _ m;intro k;induction k with
 |zero=>
  intro i s es hk hi g M hsz d N;have O:i=n:=ω
  subst O;refine ji F.entry_set_update_loop ?_;rw[j4 Dg _];show wpAny _ A.in1 (pyNext (.ref I)>>=_) _ _ s;refine ai (W.done s _ _ g λs' B=>?_);show wpAny _ A.in1 (ret Value.none) _ _ s';exact aK (N s' es (B.mono f) (M.keeps λo Q=>B.heap S _ u Q) hsz d)
 |succ k ih=>
  intro i s es hk hi g M hsz d N;have C:i<n:=ω
  refine ji F.entry_set_update_loop ?_;rw[j4 Dg _];show wpAny _ A.in1 (pyNext (.ref I)>>=_) _ _ s;refine ai (W.item i s _ _ C g λv s' hP D B=>?_);obtain⟨t,rfl⟩:=r i v hP;have T:fZ prog w s'.heap S es:=M.keeps λo Q=>B.heap S _ u Q;show wpAny _ A.in1 (holding [Value.str (val i) t] (setAdd S (.str (val i) t))>>=_) _ _ s';refine ai (fV ?_);unfold setAdd;refine fV ?_;refine ai ((PySem.strKind prog w).pyHash (k:=val i) (by show Value.isStrOf (val i) (.str (val i) t)=true;simp[Value.isStrOf]) ?_);refine add (s:={s' with toks:=s'.toks+1}) T ω λh' c b E U Z q2=>?_;have H:c.size<=i+1:=by
   by_cases p:val i∈es.toList.map (λe=>strOf e.2)
   .rw[Z p];omega
   .rw[<-iB,(q2 p).length_eq,eE,iB]
    simp only[iA,length_nil];omega
  have l:∀x,x∈names c↔∃j,j<i+1/\val j=x:=λx=>by
   have e1:x∈names c↔x∈names es\/x=val i:=by
    by_cases p:val i∈es.toList.map (λe=>strOf e.2)
    .rw[Z p]
     exact⟨.inl,λz=>z.elim id λe=>e▸p⟩
    .have hp:=((q2 p).map λe=>strOf e.2).mem_iff (a:=x)
     rw[c_,bR] at hp;refine hp.trans ⟨λz=>z.imp id λy=>by simpa[strOf] using y,λz=>z.imp id λy=>by simpa[strOf] using y⟩
   rw[e1,d x];constructor
   .rintro (⟨j,hj,e⟩|rfl)
    .exact⟨j,ω,e⟩
    .exact⟨i,ω,rfl⟩
   .rintro ⟨j,hj,e⟩
    by_cases V:j=i
    .exact .inr (by rw[<-e,V])
    .exact .inl ⟨j,ω,e⟩
  refine aK ⟨kM Dg _,ih (i+1) _ c ω C (W.frame _ s' _ _ D (nG _) λb m o e=>?_) U H l λX J K L hz Y=>?_⟩
  .rw[E.2 b (λh:b=S=>q (by rw[<-h];exact m))];exact e
  .refine N X J (Moved.trans W.gtrans ((B.mono f).then_heap (nG _) λb o m e=>?_) K) L hz Y
   rw[E.2 b (λh:b=S=>m (by rw[h];exact bw))];exact e
end
section
variable{prog:Program}{w:World}{A:Around}{E:aV}{s:Shared}
abbrev SI(w:World):Bool:= !w.params.followText "set-order"
abbrev kr(w:World):Obj:={cls:=.type "set",dict:=none,data:=.set #[] 0 (.fresh 0 0 (SI w))}
theorem code_set_new(a:Value){Q₁:aV}(h:Q₁ (.ref s.heap.objs.size) {s with heap:=s.heap.push (kr w)}):
  codeAny (model prog w) A (.call (.builtin "set.__new__") ⟨[.type "set",a],[]⟩) (wants Q₁ E) s:=by
 refine codeAny_of_tree ?_;show wpAny _ A.in1 (do checkBuiltinCall "set.__new__" ⟨[.type "set",a],[]⟩;again (.builtin "set.__new__" ⟨[.type "set",a],[]⟩)) _ _ s;refine ai (wpAny_of_eq (PySem.F.newCall_set_1 a) (aK ⟨kM PySem.F.plain_set_new _,ji PySem.F.entry_set_new ?_⟩));rw[j4 PySem.F.plain_set_new _];unfold Builtin.«set.__new__» Builtin.Frozenset.newClass;have b:=sub_set_self;obtain⟨c,g,d,e,os⟩:=s;dsimp only;wp_walk;refine wpAny_askSetting (aK ?_);dsimp only;simp only[newObj];refine ai (wpAny_alloc (aK ?_));exact aK h
theorem fZ.fresh{h:Heap}{a:Addr}(b:h.get? a=some (kr w)):fZ prog w h a #[]:=
 ⟨_,_,_,b,⟨rfl,rfl,rfl⟩,rfl,λe c=>by simp at c,θ,δ,by rfl,rfl,λz=>absurd rfl z⟩
theorem M7{l:Addr}{items:Array Value}{val:Nat->Str}{Q:aV}
  (hh:A.handled=none)(hl:s.heap.IsList l items)(hi:∀(i:Nat) (v:Value),items[i]? =some v->∃t:Tok,v=Value.str (val i) t)(J:items.size+1<scanBound)
  (h:∀(h':Heap) (K:Nat) (es:Array (Int×Value)),fZ prog w h' s.heap.objs.size es->es.size<=items.size->(∀x,x∈names es↔∃j,j<items.size/\val j=x)->
   (∀b o,b<s.heap.objs.size->s.heap.get? b=some o->h'.get? b=some o)->Q (.ref s.heap.objs.size) {s with heap:=h',toks:=K}):
  wpAny (model prog w) A (call (.type "set") [.ref l]) Q E s:=by
 obtain⟨c,tl,Zq⟩:=nR.mro
 have M:=nR.made
 have hsub:=nR.sub
 refine wpAny_call (codeAny_of_tree ?_)
 show wpAny _ _ (callAny (.type "set") _) _ _ _
 refine aK ⟨Code.quiet_builtin _ η,ji PySem.F.entry_type_call ?_⟩
 rw[Around.under_plain (weight_type_call_type "set" [.ref l] []) rfl]
 have h1:=nR.notType
 have h2:=nR.canCreate
 have hct:=PySem.F.typeCall_set_1 (.ref l)
 repeat (any_goals (first|assumption|wp_step))
 refine qe (code_set_new (.ref l) (E:=E) (Q₁:=λobj f=>obj= .ref s.heap.objs.size/\f={s with heap:=s.heap.push (kr w)}) ⟨rfl,rfl⟩) λr f N=> ?_
 cases r with
 |error e=>exact N
 |ok fl=>
  cases fl with
  |ret obj=>
   obtain⟨rfl,rfl⟩:=N
   have hS:(s.heap.push (kr w)).get? s.heap.objs.size=some (kr w):=cS _ rfl
   have hT:Shared.TypeIs {s with heap:=s.heap.push (kr w)} (.ref s.heap.objs.size) "set":=⟨_,hS,rfl⟩
   have hli:=nR.init.lookup
   have hbi:=nR.init.bind (.ref s.heap.objs.size)
   repeat (any_goals (first|assumption|wp_step))
   refine qe (Dy (R:=wants (λr g=>r= .none/\∃h' K es,g={s with heap:=h',toks:=K}/\
     fZ prog w h' s.heap.objs.size es/\es.size<=items.size/\(∀x,x∈names es↔∃j,j<items.size/\val j=x)/\
     (∀b o,b<s.heap.objs.size->s.heap.get? b=some o->h'.get? b=some o)) E) nR.init.plain PySem.F.entry_set_init (check_set_init_1 hT ?_)) λu g a=> ?_
   .obtain⟨ol,y,B,nl,C⟩:=hl
    obtain⟨ZU,k,O,d⟩:=ol
    simp only at B C
    subst B;subst C
    have D:(s.heap.push (kr w)).get? l=some {cls:= .type "list",dict:=k,data:= .seq items nl,slots:=d}:=bu _ y
    have Zt:=PySem.F.sub_list_set
    have Zs:=PySem.F.sub_list_frozenset
    have hne:(Value.type "list" ==Value.type "dict")=false:=δ
    have G:(s.heap.push (kr w)).IsList l items:=⟨_,D,rfl,nl,rfl⟩
    unfold Builtin.«set.__init__» noKeywords Builtin.Frozenset.updateFrom
    generalize P:pyIter=PI
    wp_walk
    subst P
    refine vo G ?_
    refine ai (wpAny_runValue ?_)
    have H:l<s.heap.objs.size:=aW y
    have S:A.in1.in1.in1.handled=none:=by simp[hh]
    have I:l≠(s.heap.push (kr w)).objs.size:=by
     rw[gU];exact bG (jh H)
    have T:s.heap.objs.size∉[(s.heap.push (kr w)).objs.size,l]:=by
     rw[gU];simp only[bx,bS,iR,iS,not_or]
     exact⟨bG (pV _),mQ H⟩
    refine loop ((Walks.list S _ l I items).toS) s.heap.objs.size T val (λi v hv=>hi i v hv) J (items.size - 0) 0 _ #[] ω (b_ _)
     ⟨⟨_,cS _ rfl,rfl,rfl⟩,(G.push _)⟩ ?tQ (aJ _) (λx=>⟨λz=>by simp[names] at z,λ⟨j,hj,_⟩=>absurd hj (Nat.not_lt_zero _)⟩) ?hR
    case tQ=>exact fZ.fresh (bu _ hS)
    case hR=>
     intro s' U L m n p
     obtain⟨h',g',d',V,W⟩:=s'
     have eg:g'=s.gens:=L.gens
     have ed:d'=s.drawn:=L.drawn
     have eo:W=s.os:=L.os
     subst eg;subst ed;subst eo
     show wpAny _ _ _ _ _ _
     refine aK ?_
     show wpAny _ _ (ret Value.none) _ _ _
     refine aK ⟨rfl,h',V,U,rfl,m,n,p,λb o J e=> ?_⟩
     have X:b≠s.heap.objs.size:=bG J
     have Y:b≠(s.heap.push (kr w)).objs.size:=by
      rw[gU];exact bG (jh J)
     exact L.heap b o (by simp only[bx,bS,iR,iS,not_or];exact⟨X,Y⟩) (bu _ (bu _ e))
   .cases u with
    |error e=>exact a
    |ok q=>
     cases q with
     |ret r=>
      obtain⟨rfl,h',K,es,rfl,m,n,p,Z⟩:=a
      repeat (any_goals (first|assumption|wp_step))
      exact h _ _ es m n p Z
     |_=>exact a.elim
  |_=>exact N.elim
end
theorem K4:Slot "set" "__iter__" "set.__iter__":=
 .of (owner:="set") (n:="__iter__") (by rw[p5,qd];kernel_rfl) η η η
  (by first|exact .inl η|exact .inr η) (by rw[isSubtype_type];kernel_rfl)
theorem slot_next:Slot "set_iterator" "__next__" "set_iterator.__next__":=
 .of (owner:="set_iterator") (n:="__next__") (by rw[p5,qd];kernel_rfl) η η η
  (by first|exact .inl η|exact .inr η) (by rw[isSubtype_type];kernel_rfl)
theorem K5:Slot "set_iterator" "__iter__" "set_iterator.__iter__":=
 .of (owner:="set_iterator") (n:="__iter__") (by rw[p5,qd];kernel_rfl) η η η
  (by first|exact .inl η|exact .inr η) (by rw[isSubtype_type];kernel_rfl)
theorem OY:entryFor table "set.__iter__"=some Builtin.«frozenset.__iter__»:=
 entryFor_alias (id':="frozenset.__iter__") (by kernel_rfl) (by first|rfl|decide+kernel) η (by kernel_rfl)
theorem entry_next:entryFor table "set_iterator.__next__"=some Builtin.«set_iterator.__next__»:=entryFor_of_fast (by kernel_rfl)
theorem MI(a:Value):argsOk "set.__iter__" ⟨[a],[]⟩:=by unfold argsOk;kernel_rfl
theorem args_next(a:Value):argsOk "set_iterator.__next__" ⟨[a],[]⟩:=by unfold argsOk;kernel_rfl
theorem YT{M:Model}{A:Around}{E:aV}{s:Shared}{src:Source}{n:Nat}{Q:Nat->Shared->Prop}(a:n≠0)(h:∀i d,i<n->Q i {s with drawn:=d}):wpAny M A (choose src n) Q E s:=λb p _=>by
 unfold choose;rw[Sem.wp_choose];exact⟨a,h _ _ (Nat.mod_lt _ (Nat.pos_of_ne_zero a))⟩
theorem yx{α:Type}:∀(xs:List α) (i:Nat) (x:α),xs[i]?=some x->xs.Perm (x::xs.eraseIdx i)
 |[],i,x,h=>by simp at h
 |y::r,0,x,h=>by
  simp at h;subst h;simp
 |y::r,i+1,x,h=>by
  simp only[Dq] at h;have:=yx r i x h;simp only[List.eraseIdx_cons_succ];exact(this.cons y).trans (Perm.swap x y _)
section
variable{M:Model}{A:Around}{E:aV}{s:Shared}
theorem FU{α:Type}:∀(n:Nat) (xs:List α) (s:Shared) (Q:List α->Shared->Prop),n=xs.length->(∀ys d,ys.Perm xs->Q ys {s with drawn:=d})->wpAny M A (drawOrder n xs) Q E s
 |0,xs,s,Q,a,h=>by
  cases xs with
  |nil=>unfold drawOrder;exact aK (h [] s.drawn .nil)
  |cons x r=>simp at a
 |n+1,[],s,Q,a,h=>by simp at a
 |n+1,x::r,s,Q,a,h=>by
  unfold drawOrder;refine ai (YT θ λi d hi=>?_);have e:(x::r)[i]?=some ((x::r)[i]'hi):=aS hi;rw[e];dsimp only;have b:=yx (x::r) i _ e;refine ai (FU n _ _ _ ?_ λys f c=>aK ?_)
  .have:=b.length_eq
   simp only[iA] at this a ⊢;omega
  .exact h _ f ((c.cons _).trans b.symm)
end
theorem IS{α:Type}(next:Nat->Nat):∀(fuel k:Nat) (left:List α) (out:Array α),fuel=left.length->(pickOrder.go next fuel k left out).toList.Perm (out.toList++left)
 |0,k,left,out,h=>by
  cases left with
  |nil=>unfold pickOrder.go;simp
  |cons x r=>simp at h
 |fuel+1,k,[],out,h=>by simp at h
 |fuel+1,k,x::r,out,h=>by
  unfold pickOrder.go;have hi:next k%(x::r).length<(x::r).length:=Nat.mod_lt _ θ;have e:(x::r)[next k%(x::r).length]?=some ((x::r)[next k%(x::r).length]'hi):=aS hi;rw[e];dsimp only;have a:=yx (x::r) _ _ e;refine(IS next fuel (k+1) _ _ ?_).trans ?_
  .have:=a.length_eq
   simp only[iA] at this h ⊢;omega
  .rw[Array.toList_push,append_assoc]
   exact Perm.append_left _ a.symm
theorem Vs{α:Type}(next:Nat->Nat)(xs:Array α):(pickOrder next xs).toList.Perm xs.toList:=by
 unfold pickOrder;exact(IS next xs.size 0 xs.toList #[] θ).trans θ
def gO(h:Heap)(it a:Addr)(first:Value)(i n ep:Nat):Prop:=∃o,h.get? it=some o/\o.cls=.type "set_iterator"/\o.data=.fields #[first,.int i 0,.ref a,.int n 0,.int ep 0]
def jF(h:Heap)(a:Addr)(es:Array (Int×Value))(ep:Nat)(t:SetTable):Prop:=∃o,h.get? a=some o/\o.data=.set es ep t/\t.fits es.size=true
section
variable{prog:Program}{w:World}{A:Around}{E:aV}{s:Shared}{it a:Addr}{es:Array (Int×Value)}{ep:Nat}{t:SetTable}
theorem gO.typeIs{first:Value}{i n:Nat}(h:gO s.heap it a first i n ep):s.TypeIs (.ref it) "set_iterator":=by
 obtain⟨o,h1,h2,_⟩:=h;exact⟨o,h1,h2⟩
theorem gO.put{first v:Value}{i n k:Nat}{h:Heap}(x:gO h it a first i n ep)(o:Obj)(b:h.get? it=some o):(h.update it (Obj.mapFields (·.setIfInBounds k v))).get? it=some (o.mapFields (·.setIfInBounds k v)):=by
 obtain⟨o',h1,h2,c⟩:=x;rw[h1] at b;cases b;exact j6 _ h1 (Dw (mR c _))
theorem Ip{slot:Int}{i:Nat}{x:Value}{nx:Nat}{Q:Option Value->Shared->Prop}(hi:gO s.heap it a (.int slot 0) i es.size ep)(f:jF s.heap a es ep t)
  (g:∀(A:Around) (Q:Option (Value×Nat)->Shared->Prop) (E:aV),Q (some (x,nx)) s->wpAny (model prog w) A (setNext a slot.toNat i ep) Q E s)
  (h:∀h',gO h' it a (.int nx 0) (i+1) es.size ep->SameBut it s.heap h'->Q (some x) {s with heap:=h'}):wpAny (model prog w) A (pyNext (.ref it)) Q E s:=by
 obtain⟨o,c,hc,hd⟩:=id hi
 obtain⟨os,d,e,j⟩:=f
 unfold pyNext
 refine ai (nM (rN (name:=Str.ofString "__next__") hi.typeIs slot_next (jY slot_next hi.typeIs entry_next ?_ (args_next _))))
 show wpAny _ _ (fieldsOf (.ref it)>>=_) _ _ s
 refine ai (zo c hd ?_)
 show wpAny _ _ (setEntries a>>=_) _ _ s
 refine ai (vp d e j ?_)
 simp only[nQ,j5,gS]
 refine ai (g _ _ _ ?_)
 dsimp only
 refine ai (rQ c hd θ ?_)
 have b:=hi.put (k:=0) (v:=rawInt nx) o c
 refine ai (rQ b (mR hd _) θ (aK ⟨x,rfl,aK (h _ ?_ ((SameBut.update ..).trans (SameBut.update ..)))⟩))
 refine⟨_,j6 _ b (Dw (mR (mR hd _) _)),(Obj.cls_mapFields ..).trans ((Obj.cls_mapFields ..).trans hc),?_⟩
 rw[mR (mR hd _)]
 simp[rawInt]
end
theorem OZ:entryFor table "set_iterator.__iter__"=some Builtin.«dict_keyiterator.__iter__»:=
 entryFor_alias (id':="dict_keyiterator.__iter__") (by kernel_rfl) (by first|rfl|decide+kernel) η (by kernel_rfl)
theorem MJ(a:Value):argsOk "set_iterator.__iter__" ⟨[a],[]⟩:=by unfold argsOk;kernel_rfl
section
variable{prog:Program}{w:World}{A:Around}{E:aV}{s:Shared}{it a:Addr}{es:Array (Int×Value)}{ep:Nat}{t:SetTable}
theorem BD{first:Value}{i n:Nat}{Q:aV}(hi:gO s.heap it a first i n ep)(h:Q (.ref it) s):wpAny (model prog w) A (pyIter (.ref it)) Q E s:=by
 refine wpAny_pyIter_slot hi.typeIs K5 (jY K5 hi.typeIs OZ ?_ (MJ _));show wpAny _ _ (ret (.ref it)) _ _ s;exact aK ⟨_,rfl,"set_iterator",_,hi.typeIs,slot_next.lookup,h⟩
theorem F5{slot:Int}{i:Nat}{Q:Option Value->Shared->Prop}(f:A.handled=none)(hi:gO s.heap it a (.int slot 0) i es.size ep)(g:jF s.heap a es ep t)
  (h:∀(A:Around) (Q:Option (Value×Nat)->Shared->Prop) (E:aV),Q none s->wpAny (model prog w) A (setNext a slot.toNat i ep) Q E s)
  (j:∀h',ExtBut it s.heap h'->Q none {s with heap:=h'}):wpAny (model prog w) A (pyNext (.ref it)) Q E s:=by
 obtain⟨o,e,hc,hd⟩:=id hi
 obtain⟨os,c,d,k⟩:=g
 unfold pyNext
 refine ai (nM (rN (name:=Str.ofString "__next__") hi.typeIs slot_next (jY slot_next hi.typeIs entry_next ?_ (args_next _))))
 show wpAny _ _ (fieldsOf (.ref it)>>=_) _ _ s
 refine ai (zo e hd ?_)
 show wpAny _ _ (setEntries a>>=_) _ _ s
 refine ai (vp c d k ?_)
 simp only[nQ,j5,gS]
 refine ai (h _ _ _ ?_)
 dsimp only
 refine ai (rQ e hd θ ?_)
 show wpAny _ _ (newExc (.type "StopIteration") []>>=_) _ _ _
 refine ai ?_
 simp only[newExc,newTuple]
 refine ai (jB ?_ (by size_fits))
 refine ai (m:=firstArgMember _ _) (wpAny_of_eq (a:=Value.none) (by first|rfl|(simp only[firstArgMember];rfl)) ?_)
 refine jB ?_ (by size_fits)
 simp only[raiseNew]
 refine ai (wpAny_handled ?_)
 rw[show A.in1.handled=none from f]
 refine ai (aK (wpAny_throw ?_))
 refine ai (zp (T:="StopIteration") (b:=true) ⟨_,cS _ rfl,rfl⟩ isSubtype_stop ?_)
 exact aK (j _ (((SameBut.update ..).extBut.push _).push _))
theorem T3{d:Addr}{ps:Dx}{i p:Nat}{h0:Int}{x:Value}{Q:Option Value->Shared->Prop}(hi:gO s.heap it a (.ref d) i es.size ep)(k:jF s.heap a es ep t)
  (l:∃o n,s.heap.get? d=some o/\o.data= .seq ((ps.map λ(i:Nat)=>rawInt i).toArray) n)(m:ps[i]? =some p)(q:es[p]? =some (h0,x))
  (r:∀h',gO h' it a (.ref d) (i+1) es.size ep->SameBut it s.heap h'->Q (some x) {s with heap:=h'}):wpAny (model prog w) A (pyNext (.ref it)) Q E s:=by
 obtain⟨o,f,hc,hd⟩:=id hi
 obtain⟨os,b,c,j⟩:=k
 obtain⟨u,v,g,h⟩:=l
 unfold pyNext
 refine ai (nM (rN (name:=Str.ofString "__next__") hi.typeIs slot_next (jY slot_next hi.typeIs entry_next ?_ (args_next _))))
 show wpAny _ _ (fieldsOf (.ref it)>>=_) _ _ s
 refine ai (zo f hd ?_)
 show wpAny _ _ (setEntries a>>=_) _ _ s
 refine ai (vp b c j ?_)
 simp only[nQ,j5,gS]
 refine ai (rP g h ?_)
 have e:((ps.map λ(i:Nat)=>rawInt i).toArray)[((i:Int)).toNat]? =some (Value.int (p:Int) 0):=by
  simp[m,rawInt]
 dsimp only
 rw[e]
 dsimp only
 refine ai ?_
 unfold setNextDrawn
 refine ai (rR b c j ?_)
 dsimp only
 simp only[rL,nQ,j5,gS]
 rw[q]
 refine aK ?_
 refine ai (rQ f hd θ (aK ⟨x,rfl,aK (r _ ?_ (SameBut.update ..))⟩))
 refine⟨_,j6 _ f (Dw (mR hd _)),(Obj.cls_mapFields ..).trans hc,?_⟩
 rw[mR hd]
 simp[rawInt]
theorem OW{l:Addr}{ps:Dx}{i:Nat}{Q:Option Value->Shared->Prop}(p:A.handled=none)(hi:gO s.heap it a (.ref l) i es.size ep)(q:jF s.heap a es ep t)
  (r:∃o n,s.heap.get? l=some o/\o.data= .seq ((ps.map λ(i:Nat)=>rawInt i).toArray) n)(u:ps[i]? =none)
  (x:∀h',ExtBut it s.heap h'->Q none {s with heap:=h'}):wpAny (model prog w) A (pyNext (.ref it)) Q E s:=by
 obtain⟨o,c,hc,hd⟩:=id hi
 obtain⟨os,d,f,y⟩:=q
 obtain⟨z,B,g,h⟩:=r
 unfold pyNext
 refine ai (nM (rN (name:=Str.ofString "__next__") hi.typeIs slot_next (jY slot_next hi.typeIs entry_next ?_ (args_next _))))
 show wpAny _ _ (fieldsOf (.ref it)>>=_) _ _ s
 refine ai (zo c hd ?_)
 show wpAny _ _ (setEntries a>>=_) _ _ s
 refine ai (vp d f y ?_)
 simp only[nQ,j5,gS]
 refine ai (rP g h ?_)
 have e:((ps.map λ(i:Nat)=>rawInt i).toArray)[((i:Int)).toNat]? =none:=by
  simp only[rL,List.getElem?_toArray,bz,u,Option.map_none]
 dsimp only
 rw[e]
 dsimp only
 refine ai (rQ c hd θ ?_)
 have j:=hi.put (k:=0) (v:=rawInt 0) o c
 refine ai (rQ j (mR hd _) θ ?_)
 show wpAny _ _ (newExc (.type "StopIteration") []>>=_) _ _ _
 refine ai ?_
 simp only[newExc,newTuple]
 refine ai (jB ?_ (by size_fits))
 refine ai (m:=firstArgMember _ _) (wpAny_of_eq (a:=Value.none) (by first|rfl|(simp only[firstArgMember];rfl)) ?_)
 refine jB ?_ (by size_fits)
 simp only[raiseNew]
 refine ai (wpAny_handled ?_)
 rw[show A.in1.handled=none from p]
 refine ai (aK (wpAny_throw ?_))
 refine ai (zp (T:="StopIteration") (b:=true) ⟨_,cS _ rfl,rfl⟩ isSubtype_stop ?_)
 exact aK (x _ ((((SameBut.update ..).trans (SameBut.update ..)).extBut.push _).push _))
theorem vS{Q:Bool->Shared->Prop}(h:Q (w.params.followText "set-order") s):wpAny (model prog w) A setsByText Q E s:=by
 unfold setsByText;exact ai (wpAny_askSetting (aK h))
theorem jF.keep{h h':Heap}(x:jF h a es ep t)(k:∀o,h.get? a=some o->h'.get? a=some o):jF h' a es ep t:=by
 obtain⟨o,e,r⟩:=x;exact⟨o,k o e,r⟩
theorem gO.keep{h h':Heap}{first:Value}{i n:Nat}(x:gO h it a first i n ep)(k:∀o,h.get? it=some o->h'.get? it=some o):gO h' it a first i n ep:=by
 obtain⟨o,e,r⟩:=x;exact⟨o,k o e,r⟩
theorem nextT{slot i:Nat}{Q:Option (Value×Nat)->Shared->Prop}(d:w.params.followText "set-order"=true)(g:jF s.heap a es ep t)
  (h:Q (((pickOrder (w.params.setOrder a ep) es)[i]?).map λe=>(e.2,slot)) s):wpAny (model prog w) A (setNext a slot i ep) Q E s:=by
 obtain⟨os,b,c,f⟩:=g;unfold setNext;refine ai (rR b c f ?_);dsimp only;refine ai (vS ?_);rw[d,aB rfl];simp only[nQ,j5,gS];refine ai ?_;unfold setWalk;refine ai (rR b c f ?_);dsimp only;refine ai (vS ?_);rw[d,aB rfl];exact ai (wpAny_askSetting (aK (aK h)))
theorem YQ(p:w.params.followText "set-order"=true)(r:A.handled=none)(l:a≠it):
  Walks prog w A it [it,a] [it] ((pickOrder (w.params.setOrder a ep) es).toList.map (·.2)).length (λi v=>((pickOrder (w.params.setOrder a ep) es).toList.map (·.2))[i]? =some v) (λi h=>gO h it a (.int 0 0) i es.size ep/\jF h a es ep t) where
 sub:=λb d=>by simp at d;simp[d]
 frame:=λ_ _ _ st q=>⟨st.1.keep λo e=>q it θ o e,st.2.keep λo e=>q a θ o e⟩
 item:=λi s Q E hi st f=>by
  have c:i<(pickOrder (w.params.setOrder a ep) es).size:=by simpa using hi
  have k:(pickOrder (w.params.setOrder a ep) es)[i]? =some ((pickOrder (w.params.setOrder a ep) es)[i]'c):=gw c
  refine Ip (slot:=0) (x:=((pickOrder (w.params.setOrder a ep) es)[i]'c).2) (nx:=0) st.1 st.2 (λA' u y m=>nextT p st.2 (by rw[k];exact m)) λh' g j=> ?_
  refine f _ h' s.toks ?_ ⟨g,st.2.keep λo e=>(j.2 a l).trans e⟩ λb o d e=>(j.2 b λz=>d (by simp[z])).trans e
  rw[bz,nY,k];rfl
 done:=λs Q E st f=>by
  have k:(pickOrder (w.params.setOrder a ep) es)[((pickOrder (w.params.setOrder a ep) es).toList.map (·.2)).length]? =none:=θ
  exact F5 (slot:=0) r st.1 st.2 (λA' u y m=>nextT p st.2 (by rw[k];exact m)) λh' n=>f h' s.toks λb o d e=>n b o (λz=>d (by simp[z])) e
 self:=λ_ _ _ _ st f=>BD st.1 f
theorem YN{g:Addr}{ps:Dx}(D:A.handled=none)(m:a≠it)(q:g≠it)(u:ps.Perm (range es.size)):
  Walks prog w A it [it,a,g] [it] (ps.map λp=>((es[p]?).getD (0,.none)).2).length (λi v=>(ps.map λp=>((es[p]?).getD (0,.none)).2)[i]? =some v)
   (λi h=>gO h it a (.ref g) i es.size ep/\jF h a es ep t/\∃o n,h.get? g=some o/\o.data= .seq ((ps.map λ(i:Nat)=>rawInt i).toArray) n) where
 sub:=λb j=>by simp at j;simp[j]
 frame:=λ_ _ _ st x=>⟨st.1.keep λo e=>x it θ o e,st.2.1.keep λo e=>x a θ o e,by obtain⟨o,n,e,r⟩:=st.2.2;exact⟨o,n,x g θ o e,r⟩⟩
 item:=λi s Q E hi st k=>by
  have c:i<ps.length:=by simpa using hi
  have B:ps[i]? =some (ps[i]'c):=aS c
  have d:(ps[i]'c)<es.size:=pW.mp (u.mem_iff.mp (jV c))
  have C:es[ps[i]'c]? =some ((es[ps[i]'c]'d).1,(es[ps[i]'c]'d).2):=gw d
  refine T3 st.1 st.2.1 st.2.2 B C λh' l f=> ?_
  refine k _ h' s.toks ?_ ⟨l,st.2.1.keep λo e=>(f.2 a m).trans e,by obtain⟨o,n,e,r⟩:=st.2.2;exact⟨o,n,(f.2 g q).trans e,r⟩⟩ λb o j e=>(f.2 b λz=>j (by simp[z])).trans e
  rw[bz,B]
  simp only[map_some,C,getD_some]
 done:=λs Q E st k=>by
  exact OW D st.1 st.2.1 st.2.2 θ λh' y=>k h' s.toks λb o j e=>y b o (λz=>j (by simp[z])) e
 self:=λ_ _ _ _ st k=>BD st.1 k
theorem Im{slot i:Nat}{Q:Option (Value×Nat)->Shared->Prop}(d:w.params.followText "set-order"=false)(hl:t.led=true)(g:es.size<=1)(e:jF s.heap a es ep t)
  (h:Q (match es[SetTable.below t.place slot]?,t.place[SetTable.below t.place slot]? with|some (_,x),some j=>some (x,j+1)|_,_=>none) s):wpAny (model prog w) A (setNext a slot i ep) Q E s:=by
 obtain⟨os,b,c,f⟩:=e;unfold setNext;refine ai (rR b c f ?_);dsimp only;refine ai (vS ?_);rw[d,av δ];show wpAny _ _ (if (!t.plain&&decide (es.size>1))=true then _ else _) _ _ _;rw[av (by rw[d8 (Nat.not_lt.mpr g),y_];decide)];show wpAny _ _ ((if (!t.led&& !es.isEmpty)=true then _ else _)>>=_) _ _ _;rw[hl,av θ];exact ai (aK (aK h))
theorem EI(xs:Array Nat)(h:xs.size<=1):SetTable.below xs 0=0:=by
 unfold SetTable.below;have:xs.size=0\/xs.size=1:=ω
 rcases this with z|z
 .rw[z];rfl
 .rw[z]
  unfold SetTable.below.go;rw[aB δ];dsimp only;rw[av ω];rfl
theorem below_1(xs:Array Nat)(j:Nat)(h:xs.size=1)(a:xs[0]?=some j):SetTable.below xs (j+1)=1:=by
 unfold SetTable.below;rw[h];unfold SetTable.below.go;rw[aB δ];dsimp only;have e:xs.getD ((0+1)/2) (j+1)=j:=by
  show xs.getD 0 (j+1)=j;rw[lR,a];rfl
 rw[e,aB ω];rfl
theorem YO(y:w.params.followText "set-order"=false)(hl:t.led=true)(I:es.size<=1)(n:t.fits es.size=true)(D:A.handled=none)(q:a≠it):
  Walks prog w A it [it,a] [it] (es.toList.map (·.2)).length (λi v=>(es.toList.map (·.2))[i]? =some v) (λi h=>gO h it a (.int (if i=0 then 0 else t.place.getD 0 0+1:Nat) 0) i es.size ep/\jF h a es ep t) where
 sub:=λb d=>by simp at d;simp[d]
 frame:=λ_ _ _ st B=>⟨st.1.keep λo e=>B it θ o e,st.2.keep λo e=>B a θ o e⟩
 item:=λi s Q E hi st f=>by
  have c:i<es.size:=by simpa using hi
  have h0:i=0:=ω
  subst h0
  have F:t.place.size=es.size:=by simp only[SetTable.fits,fX,beq_iff_eq] at n;exact n.1
  have C:es[0]? =some (es[0]'c):=gw c
  have g:t.place[0]? =some (t.place[0]' ω):=gw ω
  have r:t.place.getD 0 0=t.place[0]' ω:=by rw[lR,g];rfl
  refine Ip (slot:=((if (0:Nat)=0 then 0 else t.place.getD 0 0+1:Nat):Int)) (x:=(es[0]'c).2) (nx:=(t.place[0]' ω)+1) st.1 st.2 (λA' G H p=> ?_) λh' j k=> ?_
  .refine Im y hl I st.2 ?_
   simp only[nF,rL]
   rw[EI _ ω,C,g]
   exact p
  .refine f _ h' s.toks ?_ ⟨?_,st.2.keep λo e=>(k.2 a q).trans e⟩ λb o d e=>(k.2 b λz=>d (by simp[z])).trans e
   .rw[bz,nY,C];rfl
   .rw[av ω,r];exact j
 done:=λs Q E st f=>by
  have F:t.place.size=es.size:=by simp only[SetTable.fits,fX,beq_iff_eq] at n;exact n.1
  have l:(es.toList.map (·.2)).length=es.size:=θ
  rw[l] at st
  refine F5 D st.1 st.2 (λA' G H p=>Im y hl I st.2 ?_) λh' u=>f h' s.toks λb o d e=>u b o (λz=>d (by simp[z])) e
  simp only[rL]
  by_cases m:es.size=0
  .rw[aB m,EI _ ω,sd ω]
   exact p
  .have g:t.place[0]? =some (t.place[0]' ω):=gw ω
   have r:t.place.getD 0 0=t.place[0]' ω:=by rw[lR,g];rfl
   rw[av m,r,below_1 _ _ ω g,sd ω]
   exact p
 self:=λ_ _ _ _ st f=>BD st.1 f
theorem Vi{ps:Dx}(a:ps.Perm (range es.size)):(ps.map λp=>((es[p]?).getD (0,.none)).2).Perm (es.toList.map (·.2)):=by
 refine(a.map _).trans ?_;have:((range es.size).map λp=>((es[p]?).getD (0,.none)).2)=es.toList.map (·.2):=by
  apply r9;intro i;simp only[bz,nY];by_cases hi:i<es.size
  .rw[List.getElem?_range hi,gw hi]
   simp[gw hi]
  .rw[nX (by simpa using hi),sd ω];rfl
 rw[this]
theorem R4{Q:aV}(B:fZ prog w s.heap a es)
  (h:∀(h':Heap) (d:Drawn) (it:Addr) (zs:BM) (fp:D1) (St:Nat->Heap->Prop),zs.Perm (es.toList.map (·.2))->(∀A':Around,A'.handled=none->Walks prog w A' it fp [it] zs.length (λi v=>zs[i]?=some v) St)->St 0 h'->
   it∈fp->(∀b∈fp,b=a\/s.heap.objs.size<=b)->(∀b∈fp,b<h'.objs.size)->s.heap.objs.size<=it->(∀b o,s.heap.get? b=some o->h'.get? b=some o)->Q (.ref it) {s with heap:=h',drawn:=d}):wpAny (model prog w) A (pyIter (.ref a)) Q E s:=by
 obtain⟨o,ep,t,f,hex,hd,C,D,F,g,k,x⟩:=B;have y:s.TypeIs (.ref a) "set":=⟨o,f,hex.1⟩;have alt:a<s.heap.objs.size:=aW f;refine wpAny_pyIter_slot y K4 (jY K4 y OY ?_ (MI _));show wpAny _ _ (Builtin.Frozenset.sizeOf a>>=_) _ _ s;unfold Builtin.Frozenset.sizeOf;refine ai (ai (vp f hd g (aK ?_)));refine ai ?_;unfold setDrawn;refine ai (rR f hd g ?_);dsimp only;refine ai (vS (aK ?_));show wpAny _ _ (if (!w.params.followText "set-order"&&(!t.plain&&decide (es.size>1)))=true then _ else _) _ _ _;by_cases hc:(!w.params.followText "set-order"&&(!t.plain&&decide (es.size>1)))=true
 .rw[aB hc]
  refine ai (FU _ _ _ _ θ λys d j=>?_);unfold newTuple;have G:sizeOk (.seq ((ys.map λ(i:Nat)=>rawInt i).toArray) 0):=by
   show((ys.map λ(i:Nat)=>rawInt i).toArray).size<=sizeLine;rw[cE,aM,j.length_eq,pR];exact zA F
  refine ai (jB ?_ G);have l:=λb o (e:s.heap.get? b=some o)=>bu {cls:=.type "tuple",data:=.seq ((ys.map λ(i:Nat)=>rawInt i).toArray)} e;have m:=l a o f;refine ai (wpAny_setEpoch_of m hd g ?_);refine ai (jB (aK ⟨_,rfl,"set_iterator",_,⟨_,cS _ rfl,rfl⟩,slot_next.lookup,?_⟩) (by size_fits));have ne1:a≠(s.heap.push {cls:=.type "tuple",data:=.seq ((ys.map λ(i:Nat)=>rawInt i).toArray)}).objs.size:=by rw[gU];exact bG (jh alt)
  have ne2:s.heap.objs.size≠(s.heap.push {cls:=.type "tuple",data:=.seq ((ys.map λ(i:Nat)=>rawInt i).toArray)}).objs.size:=by rw[gU];exact bG (pV _)
  refine h _ d _ (ys.map λp=>((es[p]?).getD (0,.none)).2) [_,a,s.heap.objs.size] _ (Vi j) (λA' n=>YN (t:=t) (ep:=ep) n ne1 ne2 j) ⟨⟨_,cS _ rfl,rfl,rfl⟩,⟨o,bu _ m,hd,g⟩,⟨_,_,bu _ (cS _ rfl),rfl⟩⟩ θ (λb c=>by
   simp only[bx,iR,iS] at c;rcases c with z|z|z
   .exact .inr (by rw[z,gU];exact nG _)
   .exact .inl z
   .exact .inr (by rw[z];exact aJ _)) (λb c=>?_) (by rw[gU];exact nG _) λb o e=>bu _ (l b o e)
  rw[gU,gU];simp only[bx,iR,iS] at c;rcases c with z|z|z
  .rw[z,gU];exact pV _
  .rw[z];exact jh (jh alt)
  .rw[z];exact jh (pV _)
 .rw[av hc]
  refine ai (aK ?_);refine ai (wpAny_setEpoch_of f hd g ?_);refine ai (jB (aK ⟨_,rfl,"set_iterator",_,⟨_,cS _ rfl,rfl⟩,slot_next.lookup,?_⟩) (by size_fits));have ne1:a≠s.heap.objs.size:=bG alt;have q:∀b∈[s.heap.objs.size,a],b<(s.heap.push {cls:=.type "set_iterator",data:=.fields [rawInt 0,rawInt 0,.ref a,rawInt (es.size:Nat),rawInt (ep:Nat)].toArray}).objs.size:=λb c=>by
   rw[gU];simp only[bx,iR,iS] at c;rcases c with z|z
   .rw[z];exact pV _
   .rw[z];exact jh alt
  have r:∀b∈[s.heap.objs.size,a],b=a\/s.heap.objs.size<=b:=λb c=>by
   simp only[bx,iR,iS] at c;rcases c with z|z
   .exact .inr (by rw[z];exact aJ _)
   .exact .inl z
  cases u:w.params.followText "set-order" with
  |true=>
   exact h _ s.drawn _ ((pickOrder (w.params.setOrder a ep) es).toList.map (·.2)) [_,a] _ ((Vs _ es).map _) (λA' n=>YQ (t:=t) u n ne1) ⟨⟨_,cS _ rfl,rfl,rfl⟩,⟨o,bu _ f,hd,g⟩⟩ θ r q (aJ _) λb o e=>bu _ e
  |false=>
   have H:es.size<=1:=by
    rw[u] at hc;by_cases H:es.size<=1
    .exact H
    .rw[x ω,dg ω] at hc
     exact absurd rfl hc
   have hl:t.led=true:=by rw[k,u];rfl
   exact h _ s.drawn _ (es.toList.map (·.2)) [_,a] _ (.refl _) (λA' n=>YO (t:=t) (ep:=ep) u hl H g n ne1) ⟨⟨_,cS _ rfl,rfl,rfl⟩,⟨o,bu _ f,hd,g⟩⟩ θ r q (aJ _) λb o e=>bu _ e
end
section
variable{prog:Program}{w:World}{A:Around}{E:aV}{s:Shared}{a:Addr}{es:Array (Int×Value)}
theorem Nl{Q:BM->Shared->Prop}(J:A.handled=none)(B:fZ prog w s.heap a es)
  (N:∀(h':Heap) (d:Drawn) (O:Nat) (zs:BM),zs.Perm (es.toList.map (·.2))->s.heap.objs.size<=h'.objs.size->(∀b o,s.heap.get? b=some o->h'.get? b=some o)->Q zs {s with heap:=h',drawn:=d,toks:=O}):
  wpAny (model prog w) A (collect (.ref a)) Q E s:=by
 have alt:a<s.heap.objs.size:=by obtain⟨o,_,_,C,_⟩:=B;exact aW C
 have hz:es.size<scanBound:=by obtain⟨_,_,_,_,_,_,_,_,f,_⟩:=B;exact f
 unfold collect;refine ai (wpAny_runValue (ji PySem.F.entry_proto_collect ?_));rw[j4 PySem.F.plain_proto_collect _];show wpAny _ A.in1 (newList []>>=λl=>again (.builtin "list.__iadd__" ⟨[l,.ref a],[]⟩)) _ _ s;refine ai (jB ?_);refine aK ⟨kM ze _,ji PySem.F.entry_list_iadd ?_⟩;rw[j4 ze _];have i:fZ prog w (s.heap.push {cls:=.type "list",data:=.seq ([]:BM).toArray}) a es:=B.keeps λo e=>bu _ e;have v:∀{s':Shared},fZ prog w s'.heap a es->s'.TypeIs (.ref a) "set":=λ {s'} x=>by obtain⟨o,_,_,C,hex,_⟩:=x;exact⟨o,C,hex.1⟩
 show wpAny _ A.in1 (Builtin.List.listExtendWith (.ref s.heap.objs.size) (.ref a) (.ref s.heap.objs.size)) _ _ _;unfold Builtin.List.listExtendWith;refine ai (p8 (v (s':={s with heap:=s.heap.push {cls:=.type "list",data:=.seq ([]:BM).toArray}}) i) ?_);have h1:Builtin.List.listSameRef (.ref s.heap.objs.size) (.ref a)=false:=by simp[Builtin.List.listSameRef,mQ alt]
 have h2:(Value.type "set" ==Value.type "list")=false:=δ
 have P:(Value.type "set" ==Value.type "tuple")=false:=δ
 simp only[h1,h2,P,Bool.or_false,j5,gS];refine ai (R4 (s:={s with heap:=s.heap.push {cls:=.type "list",data:=.seq ([]:BM).toArray}}) i λh2 d it zs fp St m W D hit G R n k2=>?_);have k:fZ prog w h2 a es:=i.keeps λo e=>k2 _ _ e;refine ai (fV ?_);unfold Builtin.List.listLengthHint;refine ai (wpAny_specialOf (v (s':={s with heap:=h2,drawn:=d}) k) PySem.F.slot_set_len.lookup ?_);dsimp only;have g:splitId "set.__len__"=some ("set","__len__"):=η
 rw[g];dsimp only;refine ai (zp (v (s':={s with heap:=h2,drawn:=d}) k) sub_set_self ?_);simp only[Bool.not_true,j5,gS];rw[aB η];refine ai (p8 (v (s':={s with heap:=h2,drawn:=d}) k) ?_);refine aK ?_;rw[aB η];refine ai (lM ?_);have S:(s.heap.push {cls:=.type "list",data:=.seq ([]:BM).toArray}).get? s.heap.objs.size=some {cls:=.type "list",data:=.seq ([]:BM).toArray}:=cS _ rfl;have K:=k2 _ _ S;have p:s.heap.objs.size∉fp:=λz=>by
  rcases G _ z with e|e
  .exact absurd alt (by rw[<-e];exact gu _)
  .rw[gU] at e
   exact absurd e (Nat.not_succ_le_self _)
 have q:s.heap.objs.size<it:=by rw[gU] at n;exact n
 refine ai ?_;show wpAny _ A.in1 (updateSeq s.heap.objs.size (·.push .none)>>=λ_=>updateSeq s.heap.objs.size (·.pop)) _ _ _;refine ai (rS K rfl ?_);have L2:=j6 (Obj.mapSeq (·.push Value.none)) K rfl;refine rS L2 rfl ?_;have T:=j6 (Obj.mapSeq (·.pop)) L2 rfl;have r:∀b o,b≠s.heap.objs.size->h2.get? b=some o->((h2.update s.heap.objs.size (Obj.mapSeq (·.push Value.none))).update s.heap.objs.size (Obj.mapSeq (·.pop))).get? b=some o:=
  λb o f e=>(nW _ _ (Ne.symm f)).trans ((nW _ _ (Ne.symm f)).trans e)
 have U:=(W A.in1 J).toS;have V:zs.length<=sizeLine:=by rw[m.length_eq,aM,iB];exact zA hz
 refine aK ⟨kM vh _,codeAny_extend_loopS U V _ p _ zs.length 0 _ _ _ rfl (b_ _) ((W A.in1 J).frame 0 _ _ D λb f o e=>r b o (λz=>p (z▸f)) e) T (ItemsOf.nil _) λs' c c' y t h=>?_⟩;show wpAny _ A (load s.heap.objs.size>>=_) _ _ s';refine ai (wpAny_load t ?_);have u:c.toList=zs:=by
  apply r9;intro j;rw[nY];by_cases L:j<c.size
  .have M:c[j]?=some (c[j]'L):=gw L
   rw[M];exact(h.2 j _ M).symm
  .rw[sd ω,nX (by rw[<-h.1];omega)]
 obtain⟨h',g',d',H,I⟩:=s';have X:g'=s.gens:=y.gens;have Y:d'=d:=y.drawn;have Z:I=s.os:=y.os;subst X;subst Y;subst Z;refine aK ?_;show Q c.toList _;rw[u];have kp:∀b o,s.heap.get? b=some o->h'.get? b=some o:=λb o e=>by
  have f:b<s.heap.objs.size:=aW e;refine y.heap b o ?_ (r b o (bG f) (k2 _ _ (bu _ e)));simp only[bx,iR,iS,not_or];exact⟨bG f,bG (lt_trans f q)⟩
 exact N h' d' H zs m (gK (aW t)) kp
theorem XH{l:List (Int×Value)}(h:ElemsOf (PySem.strKind prog w) l):∀{zs:BM},zs.Perm (l.map (·.2))->StrsAre zs (zs.map strOf):=λ {zs} a=>by
 have:∀v∈zs,∃t,v=Value.str (strOf v) t:=λv b=>by
  obtain⟨e,c,rfl⟩:=aP.mp (a.mem_iff.mp b);exact AR h c
 clear a;induction zs with
 |nil=>exact .nil
 |cons v r d=>
  obtain⟨t,e⟩:=this v θ;have r':=d λf h'=>this f (by simp[h']);rw[cM];rw[e];exact .cons _ t r'
theorem Xs{Q:aV}(x:A.handled=none)(t:fZ prog w s.heap a es)(n:es.size<64)
  (h:∀(h':Heap) (d:Drawn) (k:Nat) (l:Addr) (e:Nat) (out:BM) (D:Ap),s.heap.objs.size<=l->h'.get? l=some (seqObj "list" out.toArray e)->StrsAre out D->D.Perm (names es)->sortedS D=true->
   (∀b o,s.heap.get? b=some o->h'.get? b=some o)->Q (.ref l) {s with heap:=h',drawn:=d,toks:=k}):
  wpAny (model prog w) A (call (.builtin "sorted") [.ref a]) Q E s:=by
 have c:ElemsOf (PySem.strKind prog w) es.toList:=by obtain⟨_,_,_,_,_,_,c,_⟩:=t;exact c
 refine zc kind_sorted plain_sorted entry_sorted (args_sorted1 _) ?_;unfold Builtin.«sorted»;refine ai (m:=checkCount "sorted" 1 1 _) (aK ?_);refine ai (Nl x t λh1 d k zs F G H=>?_);have f:StrsAre zs (zs.map strOf):=XH c F;have i:zs.length<64:=by rw[F.length_eq,aM,iB];exact n
 refine ai (vn ?_);have g:(h1.push (seqObj "list" zs.toArray 0)).get? h1.objs.size=some (seqObj "list" zs.toArray 0):=cS _ rfl;show wpAny _ _ _ _ _ {s with heap:=h1.push (seqObj "list" zs.toArray 0),drawn:=d,toks:=k};refine ai (fV (jY zg ⟨_,g,rfl⟩ zz (list_sort_treeK strKind_oneLt g f.keysOf (λu v rest e=>keyKind_strs (by rw[<-e];exact f)) i λj I J=>⟨_,rfl,?_⟩) (zy _)));obtain⟨p,y,z,B⟩:=sorted_out_str f I J;obtain⟨e,C⟩:=zh (out:=(arrOf j).map (·.2)) g;refine aK ⟨_,rfl,h _ d k h1.objs.size e ((arrOf j).map (·.2)).toList p G (by rw[zk];exact C) y (z.trans ?_) B λb o q=>?_⟩
 .have:=F.map strOf
  rw[br] at this;exact this
 .have r:=H b o q
  rw[zj (bG (aW r)) (by rw[rJ];exact jh (aW r))];exact bu _ r
end
end SS
namespace L2
variable{X:Cx}
theorem XF{xs:Ap}{d:BM}(r:Vals (xs.map V.str) d):∀(i:Nat) (v:Value),d.toArray[i]?=some v->∃t:Tok,v=Value.str (xs.getD i ⟨#[]⟩) t:=λi v h=>by
 have h':d[i]?=some v:=by simpa using h
 have hl:=r.length;have hi:i<d.length:=(bK.mp h').1;have b:(xs.map V.str)[i]?=some (V.str (xs.getD i ⟨#[]⟩)):=by
  rw[bz,cO];have:i<xs.length:=by rw[<-hl,aM] at hi;exact hi
  rw[aS this];rfl
 obtain⟨u,a,c⟩:=r.get b;rw[h'] at a;cases a;exact c
def strLt(a b:Str):Prop:=a.cps.toList<b.cps.toList
theorem JC:∀(p:Str) (l:Ap),risingS p l=true->(p::l).Pairwise (λa b=>¬b.cps.toList<a.cps.toList)
 |p,[],_=>List.pairwise_singleton _ _
 |p,x::r,h=>by
  simp only[risingS,fX,vg,ltCps_eq,Dz] at h;have c:=JC x r h.2;refine iC.mpr ⟨λy d=>?_,c⟩;rcases bx.mp d with e|e
  .rw[e];exact h.1
  .have:=(iC.mp c).1 y e
   exact λz=>(kK.mp this)|>λq=>absurd z (kK.mpr (List.le_trans (kK.mp h.1) q))
theorem K7{l:Ap}(h:sortedS l=true):l.Pairwise (λa b=>¬b.cps.toList<a.cps.toList):=by
 cases l with
 |nil=>exact .nil
 |cons x r=>exact JC x r h
theorem Lg{l:Ap}(h:l.Pairwise (λa b=>¬b.cps.toList<a.cps.toList))(nd:l.Nodup):l.Pairwise strLt:=by
 refine(h.and nd).imp λ {a b} q=>?_;by_cases z:a.cps.toList<b.cps.toList
 .exact z
 .have e:a.cps.toList=b.cps.toList:=le_antisymm (kK.mp q.1) (kK.mp z)
  refine absurd ?_ q.2;obtain⟨⟨c⟩⟩:=a;obtain⟨⟨d⟩⟩:=b;have f:c=d:=e;rw[f]
def Yc(K:Frag)(ta:TA):TE:=λσ H Q=>ta σ H λvs H1=>∃(a:Addr) (xs:Ap),vs=[.ref a]/\bf K H1 a (xs.map V.str)/\xs.length<64/\
 ∀(l:Addr) (ys:Ap),H1 l=none->ys.Pairwise strLt->(∀x,x∈ys↔x∈xs)->Q (.ref l) (ax H1 l (.lst (ys.map V.str)))
theorem yZ:∀{out:BM} {a:Ap},StrsAre out a->Vals (a.map V.str) out
 |_,_,.nil=>.nil
 |_,_,.cons x t h=>.cons ⟨t,rfl⟩ (yZ h)
theorem Vc{e:Expr}{ta:TA}{U p2 w f:Pos}(F:X.mg "sorted"=none)(G:X.mg "set"=none)(hc:X.calm=true)(W:PA X [e] ta)(J:Gl X "sorted":=by rfl)(L:Gl X "set":=by rfl)
  (Y:starEach [e] X.env=[(false,eval e X.env)]:=by rfl)(hz:starEach [.Call (.Name "set" p2) [e] [] f] X.env=[(false,eval (.Call (.Name "set" p2) [e] [] f) X.env)]:=by rfl):
  PE X (.Call (.Name "sorted" U) [.Call (.Name "set" p2) [e] [] f] [] w) (Yc X.K ta):=by
 intro ae s σ H Q I h;refine kO (jr I J F (show bootBuiltins "sorted"=some (.builtin "sorted") by with_unfolding_all rfl) ?_);refine De ?_ hz rfl;rw[hz];refine vd (kO (jr I L G (show bootBuiltins "set"=some (.type "set") by with_unfolding_all rfl) (mK (aQ (W f ae s σ H _ I h) λus y ⟨vs,H1,m,Z,q1⟩=>?_) Y rfl)));obtain⟨a,xs,e,hq,h64,q⟩:=q1;subst e;obtain⟨u,rfl,ru⟩:=vals1 Z;cases ru;obtain⟨its,R,pl,Zv⟩:=m.list hq;have hl:=R.length;have hsz:its.toArray.size=xs.length:=by rw[cE,<-hl,aM]
 refine SS.M7 (val:=λi=>xs.getD i ⟨#[]⟩) (m.ok.hd hc) pl.isList (λi v hv=>XF R i v hv) (by rw[hsz,show scanBound=4096 from rfl];omega) λh2 tk es M S A k2=>?_;have k:es.size<64:=ω
 have g:∀b o,y.heap.get? b=some o->h2.get? b=some o:=λb o e=>k2 b o (aW e) e;refine vf ?_;refine SS.Xs (s:={y with heap:=h2,toks:=tk}) (m.ok.hd hc) M k λT d B l ep out ss p N O c r k3=>?_;have alt:y.heap.objs.size<h2.objs.size:=by obtain⟨o,_,_,ho,_⟩:=M;exact aW ho
 have E:H1 l=none:=m.ar.fresh (d7 (gK alt) p);have nd:ss.Nodup:=c.nodup_iff.mpr (by obtain⟨_,_,_,_,_,_,_,P,_⟩:=M;exact P);have t:∀x,x∈ss↔x∈xs:=λx=>by
  rw[c.mem_iff,A x,hsz];constructor
  .rintro ⟨j,C,rfl⟩
   rw[cO,aS C];exact jV C
  .intro hx
   obtain⟨j,C,e⟩:=jW hx;exact⟨j,C,by rw[cO,aS C];exact e⟩
 have D:ss.length=es.size:=by rw[c.length_eq,aM,iB]
 have I2:Inv X ae σ (ax H1 l (.lst (ss.map V.str))) {y with heap:=T,drawn:=d,toks:=B}:=by
  refine m.call (ch:=[]) (g':=y.gens) (d':=d) (t':=B) (h':=T) (H':=ax H1 l (.lst (ss.map V.str))) ⟨λb o q _ _ _=>k3 b o (g b o q),λb o q _ _ _=>⟨o.slots,k3 b o (g b o q)⟩,λb o q n _=>?_,λb o q _=>⟨o,k3 b o (g b o q)⟩,λb xs q=>?_,λb o u q=>?_,λb ps q=>⟨#[],?_⟩⟩ ?_ m.bare λb z=>absurd z θ
  .rw[aY (bG (dj (aW q) (d7 (gK alt) p)))];exact n
  .rw[aY (di q E)];exact q
  .rw[aY (di q E)];exact q
  .rw[aY (di q E),q];simp
  .exact m.ar.laid (λb u q=>k3 b u (g b u q)) (d7 (gK alt) p) ⟨by rw[aM,D];exact gK (dj k δ),out,ep,yZ O,N⟩
 exact⟨.ref l,_,I2,rfl,q l ss E (Lg (K7 r) nd) t⟩
section
variable{prog:Program}{w:World}{A:Around}{E:aV}{s:Shared}
theorem tuple_addW0(l b:Addr)(items a:Array Value)(n n2:Nat)(q c:Option Addr)(f e:Array (Option Value))(i:items.isEmpty=true):
  Meets (Builtin.«tuple.__add__» ⟨[.ref l,.ref b],[]⟩) (λ_ R s=>s.heap.get? l=some {cls:=.type "tuple",dict:=q,data:=.seq items n,slots:=f}/\s.heap.get? b=some {cls:=.type "tuple",dict:=c,data:=.seq a n2,slots:=e}/\R (.ok (.ret (Value.ref b))) {s with heap:=s.heap,toks:=s.toks}):=
 .of_wp λprog w A R s h=>by obtain⟨k,g,d,m,os⟩:=s;obtain⟨hl,j,h⟩:=h;have r:=AutoSeq1.idx_int;have t:=AutoSeq1.sub_tuple_tuple;have o:=AutoSeq1.sub_list_list;have f4:=AutoSeq1.sub_tuple_list;have p:=AutoSeq1.sub_list_tuple;wp_walk using zq hl,zq j;exact⟨_,rfl,h⟩
end
def V6(K:Frag):R2:=λx y H Q=>∃a b ys,x=.ref a/\y=.ref b/\bV K H a []/\bV K H b ys/\Q (.ref b) H
theorem Uw:bH X (binaryOp .Add) (V6 X.K):=by
 intro ae s σ H x y v u Q I k l h;obtain⟨a,b,ys,rfl,rfl,m,o,q⟩:=h;cases k;cases l;obtain⟨z,p,r,_⟩:=I.tuple m;obtain⟨c,w,p2,_⟩:=I.tuple o;cases p;obtain⟨⟨cls,A,data,t⟩,i,hc,n,hd⟩:=id r;obtain⟨⟨j,f,data2,g⟩,d,e,n2,hd2⟩:=id p2;simp only at hc hd e hd2;subst hc hd e hd2;exact concat_meets ⟨_,i,rfl⟩ ⟨_,d,rfl⟩ noFill_tuple_add seq_tuple_add slot_tuple_add entry_tuple_add (args_tuple_add_2 _ _)
  (tuple_addW0 a b #[] c.toArray n n2 A f t g rfl) ⟨i,d,⟨.ref b,H,I,rfl,q⟩⟩
def Jf(K:Frag):R2:=λx y H Q=>∃a b xs ys,x=.ref a/\y=.ref b/\bV K H a xs/\bV K H b ys/\xs.length+ys.length<=sizeLine/\
 (xs=[]->Q (.ref b) H)/\(xs≠[]->ys=[]->Q (.ref a) H)/\(xs≠[]->ys≠[]->∀p,H p=none->Q (.ref p) (ax H p (.tup (xs++ys))))
theorem Uu:bH X (binaryOp .Add) (Jf X.K):=by
 intro ae s σ H x y v u Q I d e h;obtain⟨a,b,xs,ys,rfl,rfl,f,g,l,i,j,k⟩:=h;by_cases c:xs=[]
 .subst c
  exact Uw ae s σ H _ _ v u Q I d e ⟨a,b,ys,rfl,rfl,f,g,i rfl⟩
 .exact Uv ae s σ H _ _ v u Q I d e ⟨a,b,xs,ys,rfl,rfl,f,g,c,l,j c,k c⟩
theorem Tt:typeLookup (.type "list") "keys"=pure none:=by rw[p5,qd];kernel_rfl
theorem Tu:typeLookup (.type "tuple") "keys"=pure none:=by rw[p5,qd];kernel_rfl
section
variable{prog:Program}{w:World}{A:Around}{E:aV}{s:Shared}
theorem T9{a:Addr}{xs:Array Value}{k:Nat}{Q:Option Value->Shared->Prop}(i:s.heap.get? a=some {cls:=.type "list",data:=.seq xs k})(m:A.handled=none)
  (h:∀h' j,(∀b o,s.heap.get? b=some o->h'.get? b=some o)->Q none {s with heap:=h',toks:=j}):wpAny (model prog w) A (getAttr? (.ref a) "keys") Q E s:=by
 obtain⟨n,g,d,j,os⟩:=s;have l:∀c,(⟨n,g,d,c,os⟩:Shared).TypeIs (.ref a) "list":=λ_=>⟨_,i,rfl⟩;have u:=sub_AttributeError;have p:=Di.lookup;have f4:=Di.bind (.ref a);have q:=am_list_getattr_none;unfold getAttr? getAttrBy? getAttrBy;repeat (any_goals (first|assumption|exact l _|((with_reducible show wpAny _ _ (call (Value.builtin "list.__getattribute__") _ _) _ _ _);refine mT Di (l _) am_entry_list_getattribute (PySem.F.args_list_getattribute_2 _ _) (meets_getattribute_miss_list a xs k #[] "keys" _ Tt δ δ) ⟨i,m,λh' c e f=>?_⟩)|wp_step))
 obtain⟨v,r,t⟩:=f.there;show wpAny _ _ (getattributeRaised _ _ _ _ _ _ _) _ _ _;unfold getattributeRaised;repeat (any_goals (first|assumption|wp_step))
 exact h _ _ f.keeps
theorem T_{a:Addr}{xs:Array Value}{k:Nat}{Q:Option Value->Shared->Prop}(i:s.heap.get? a=some {cls:=.type "tuple",data:=.seq xs k})(m:A.handled=none)
  (h:∀h' j,(∀b o,s.heap.get? b=some o->h'.get? b=some o)->Q none {s with heap:=h',toks:=j}):wpAny (model prog w) A (getAttr? (.ref a) "keys") Q E s:=by
 obtain⟨n,g,d,j,os⟩:=s;have l:∀c,(⟨n,g,d,c,os⟩:Shared).TypeIs (.ref a) "tuple":=λ_=>⟨_,i,rfl⟩;have u:=sub_AttributeError;have p:=Dv.lookup;have f4:=Dv.bind (.ref a);have q:=am_tuple_getattr_none;unfold getAttr? getAttrBy? getAttrBy;repeat (any_goals (first|assumption|exact l _|((with_reducible show wpAny _ _ (call (Value.builtin "tuple.__getattribute__") _ _) _ _ _);refine mT Dv (l _) am_entry_tuple_getattribute (PySem.F.args_tuple_getattribute_2 _ _) (meets_getattribute_miss_tuple a xs k #[] "keys" _ Tu δ δ) ⟨i,m,λh' c e f=>?_⟩)|wp_step))
 obtain⟨v,r,t⟩:=f.there;show wpAny _ _ (getattributeRaised _ _ _ _ _ _ _) _ _ _;unfold getattributeRaised;repeat (any_goals (first|assumption|wp_step))
 exact h _ _ f.keeps
end
theorem F8:entryFor table "dict.update.loop"=some Builtin.«dict.update.loop»:=entryFor_of_tree (by kernel_rfl)
theorem uK:plainId "dict.update.loop"=true:=η
section
variable{prog:Program}{w:World}{A:Around}{R:Result->Shared->Prop}{I:Addr}{fp wr:D1}{n:Nat}{P:Nat->Value->Prop}{St:Nat->Heap->Prop}
theorem loop(W:Walks prog w A.in1 I fp wr n P St)(D:Addr)(p:D∉fp)(h₀:Heap)(key:Nat->L2.Key)(E q:Nat->Value)
  (u:∀i v,i<n->P i v->∃t,v=.ref t/\t≠D/\t∉wr/\IsTup h₀ t #[E i,q i])(x:∀i,i<n->(L2.c9 prog w).is (key i) (E i)=true)(hn:n<=sizeLine):
  ∀(k i:Nat) (s:Shared) (kvs:List (L2.Key×Value)),n - i=k->i<=n->St i s.heap->s.heap.DictOf (L2.c9 prog w) D kvs->kvs.length<=i->(∀b o,b≠D->b∉wr->h₀.get? b=some o->s.heap.get? b=some o)->
   (∀h' y,h'.DictOf (L2.c9 prog w) D (((range n).drop i).foldl (λacc j=>stored acc (key j) (q j)) kvs)->(∀b o,b≠D->b∉wr->s.heap.get? b=some o->h'.get? b=some o)->R (.ok (.ret .none)) {s with heap:=h',toks:=y})->
   codeAny (model prog w) A (.builtin "dict.update.loop" ⟨[.ref D,.ref I,rawInt (i:Nat),.none],[]⟩) R s:=by
 have B:D∉wr:=λh=>p (W.sub _ h);intro k;induction k with
 |zero=>
  intro i s kvs Z hi g G hl H J;have K:i=n:=ω
  subst K;refine ji F8 ?_;rw[j4 uK _];show wpAny _ A.in1 (pyNext (.ref I)>>=_) _ _ s;refine ai (W.done s _ _ g λh' y l=>?_);show wpAny _ A.in1 (Builtin.Dict.addKeywords D []>>=_) _ _ _;refine ai (aK (aK (J h' y ?_ λb o d a e=>l b o a e)));rw[rZ θ,List.foldl_nil];obtain⟨o,es,ep,L,r⟩:=G;exact⟨o,es,ep,l D o B L,r⟩
 |succ k ih=>
  intro i s kvs Z hi g G hl H J;have c:i<n:=ω
  refine ji F8 ?_;rw[j4 uK _];show wpAny _ A.in1 (pyNext (.ref I)>>=_) _ _ s;refine ai (W.item i s _ _ c g λv h1 y hP C l=>?_);obtain⟨t,rfl,tD,tw,ht⟩:=u i v c hP;obtain⟨F,M,N,nt,O⟩:=ht;have f:h1.get? t=some F:=l t F tw (H t F tD tw M);refine ai (fV ?_);refine ai (wpAny_tryCatch ?_);unfold Builtin.Dict.pairItems;refine ai (p8 (T:="tuple") ⟨F,f,N⟩ ?_);rw[aB δ];refine ai (rP f O (aK ?_));show wpAny _ _ (holding [E i,q i] (dictSet D (E i) (q i))) _ _ _;have Q:h1.DictOf (L2.c9 prog w) D kvs:=by
   obtain⟨o,es,ep,L,r⟩:=G;exact⟨o,es,ep,l D o B L,r⟩
  refine fV (wpAny_dictSet_pairs (s:={s with heap:=h1,toks:=y}) (x i c) Q (λh2 S m=>?_) ω);have U:St (i+1) h2:=W.frame _ _ _ C λb d o e=>(m.2 b λz=>p (z▸d)).trans e;have e1:((i:Nat):Int)+1=((i+1:Nat):Int):=ω
  refine aK ⟨kM uK _,?_⟩;show codeAny _ _ (.builtin "dict.update.loop" ⟨[.ref D,.ref I,rawInt (((i:Nat):Int)+1),.none],[]⟩) _ _;rw[e1];refine ih (i+1) _ _ ω c U S ?_ (λb o d a e=>(m.2 b d).trans (l b o a (H b o d a e))) λh' V X Y=>?_
  .have:=stored_length_le kvs (key i) (q i)
   omega
  .refine J h' V ?_ λb o d a e=>Y b o d a ((m.2 b d).trans (l b o a e))
   have e2:(range n).drop i=i::(range n).drop (i+1):=by
    rw[mU (by simpa using c)];simp
   rw[e2,iF];exact X
end
def putAll(ps:List (Key×V)):List (Key×V):=ps.foldl (λacc p=>putK acc p.1 p.2) []
theorem V0(ps acc:List (Key×V)):(ps.foldl (λacc p=>putK acc p.1 p.2) acc).length<=acc.length+ps.length:=by
 induction ps generalizing acc with
 |nil=>simp
 |cons p r a=>
  rw[iF,iA];refine d7 (a _) ?_;have:(putK acc p.1 p.2).length<=acc.length+1:=by
   unfold putK;split
   .rw[aM];omega
   .rw[eE];simp
  omega
theorem Sx{ps:List (Key×V)}{n:Nat}{key:Nat->Key}{a:Nat->Value}(b:n=ps.length)(h:∀i p,ps[i]?=some p->key i=p.1/\RelV p.2 (a i)):KV (putAll ps) ((range n).foldl (λacc j=>stored acc (key j) (a j)) []):=by
 subst b;unfold putAll;have gen:∀(m:Nat),m<=ps.length->KV ((ps.take m).foldl (λacc p=>putK acc p.1 p.2) []) ((range m).foldl (λacc j=>stored acc (key j) (a j)) []):=λm=>by
  induction m with
  |zero=>intro _;simp;exact .nil
  |succ m c=>
   intro d;have e:ps[m]?=some (ps[m]' ω):=aS ω;obtain⟨h1,h2⟩:=h m _ e;rw[List.take_add_one,e,List.range_succ,nV,nV];simp only[Option.toList_some,iF,List.foldl_nil];rw[h1];exact KV.put (c ω) _ h2
 have:=gen ps.length (aJ _);rwa [take_length] at this
def Pairs(K:Frag)(H:Hp)(ts:Bn)(ps:List (Key×V)):Prop:=ts.length=ps.length/\∀(i:Nat) (x:V) (p:Key×V),ts[i]?=some x->ps[i]?=some p->∃t,x=.ref t/\bV K H t [kV p.1,p.2]
theorem vV(hc:X.calm=true):fy X (.type "dict") (λxs H Q=>∃(p:Addr) (ts:Bn) (ps:List (Key×V)),xs=[.ref p]/\(H p=some (.lst ts)\/H p=some (.tup ts))/\Pairs X.K H ts ps/\ps.length<=1000/\∀d,H d=none->Q (.ref d) (ax H d (.dK (putAll ps)))):=by
 intro ae s σ H xs us Q I r h;obtain⟨p,ts,ps,rfl,hp,hP,hl,q⟩:=h;obtain⟨u,rfl,Z⟩:=vals1 r;cases Z;have hh:=I.ok.hd hc;obtain⟨its,hv,D⟩:∃its:BM,Vals ts its/\((∃n,s.heap.get? p=some {cls:=.type "list",data:=.seq its.toArray n})\/∃n,s.heap.get? p=some {cls:=.type "tuple",data:=.seq its.toArray n}):=by
  rcases hp with hp|hp
  .obtain⟨_,its,n,y,e⟩:=(show b9 X.prog X.w H s.heap p (.lst ts) from I.ar p _ hp)
   exact⟨its,y,.inl ⟨n,e⟩⟩
  .obtain⟨its,n,y,e,_⟩:=I.Lu hp
   exact⟨its,y,.inr ⟨n,e⟩⟩
 have l:its.length=ps.length:=by rw[<-hv.length];exact hP.1
 have Vy:p<s.heap.objs.size:=by rcases D with⟨_,e⟩|⟨_,e⟩<;>exact aW e
 have pair:∀i,i<ps.length->∃t k v,its[i]?=some (.ref t)/\IsTup s.heap t #[k,v]/\∃p,ps[i]?=some p/\RelV (kV p.1) k/\RelV p.2 v:=λi hi=>by
  have z:ps[i]?=some (ps[i]'hi):=aS hi;have B:ts[i]?=some (ts[i]'(by rw[hP.1];exact hi)):=aS _;obtain⟨t,ex,hq⟩:=hP.2 i _ _ B z;obtain⟨u,hu,Z⟩:=hv.get B;rw[ex] at Z;cases Z;obtain⟨its2,r2,p2,_⟩:=I.tuple hq;obtain⟨k,v,rfl,M,y⟩:=vals2 r2;exact⟨t,k,v,hu,p2,_,z,M,y⟩
 let O:Nat->Value:=λi=>match its[i]? with|some (.ref t)=>(match s.heap.get? t with|some o=>(match o.data with|.seq a _=>a.getD 0 .none|_=>.none)|none=>.none)|_=>.none
 let N:Nat->Value:=λi=>match its[i]? with|some (.ref t)=>(match s.heap.get? t with|some o=>(match o.data with|.seq a _=>a.getD 1 .none|_=>.none)|none=>.none)|_=>.none
 let key:Nat->Key:=λi=>((ps[i]?).map (·.1)).getD (.inl 0);have g:∀i,i<ps.length->∃t p,its[i]?=some (.ref t)/\IsTup s.heap t #[O i,N i]/\ps[i]?=some p/\key i=p.1/\RelV (kV p.1) (O i)/\RelV p.2 (N i):=λi hi=>by
  obtain⟨t,k,v,z,J,pp,B,M,y⟩:=pair i hi;obtain⟨o,E,hcl,n,hd⟩:=id J;have P:O i=k:=by simp only[O,z,E,hd];rfl
  have ev:N i=v:=by simp only[N,z,E,hd];rfl
  have ey:key i=pp.1:=by simp only[key,B];rfl
  rw[P,ev,ey];exact⟨t,pp,z,J,B,rfl,M,y⟩
 have hsz:ps.length<=sizeLine:=d7 hl δ;refine callType_codes (Q₁:=λobj G=>obj=.ref s.heap.objs.size/\G={s with heap:=s.heap.push {cls:=.type "dict",data:=.dict #[]}}) PySem.F.kt_called_dict (PySem.F.kt_typeCall_dict_1 _) PySem.F.entry_dict_init (kt_code_dict_new _ ⟨rfl,rfl⟩) ?_;rintro obj G ⟨rfl,rfl⟩;have c:(s.heap.push {cls:=.type "dict",data:=.dict #[]}).DictOf (c9 X.prog X.w) s.heap.objs.size []:=DictOf.new s.heap;refine⟨c.typeIs,PySem.F.args_dict_init_2 _ _,?_⟩;unfold Builtin.«dict.__init__»;refine ai ?_;unfold Builtin.Dict.selfAndRest;refine ai (wpAny_notOrdered_dict c.typeIs ?_);show wpAny _ _ (pure (s.heap.objs.size,[Value.ref p])) _ _ _;refine aK ?_;show wpAny _ _ (Builtin.Dict.updateFrom "dict.__init__" s.heap.objs.size (.ref p) [] .none) _ _ _;unfold Builtin.Dict.updateFrom;have k0:∀b o,s.heap.get? b=some o->(s.heap.push {cls:=.type "dict",data:=.dict #[]}).get? b=some o:=λb o e=>bu _ e;have pD:p≠s.heap.objs.size:=bG Vy;have go:∀(h1:Heap) (tk:Nat) (R:Addr) (fp:D1) (St:Nat->Heap->Prop),(∀b o,(s.heap.push {cls:=.type "dict",data:=.dict #[]}).get? b=some o->h1.get? b=some o)->s.heap.objs.size<R->
   Walks X.prog X.w X.A.in1.in1 R fp [R] its.length (λi v=>its.toArray[i]?=some v) St->St 0 h1->s.heap.objs.size∉fp->
   codeAny (model X.prog X.w) X.A.in1 (.builtin "dict.update.loop" ⟨[.ref s.heap.objs.size,.ref R,rawInt 0,.none],[]⟩) (wants (λr S=>r=.none/\EP X ae σ Q (.ref s.heap.objs.size) S) X.xe) {s with heap:=h1,toks:=tk}:=by
  intro h1 tk R fp St k1 hI W Xw hDf;have QN:h1.DictOf (c9 X.prog X.w) s.heap.objs.size []:=by
   obtain⟨o,es,ep,E,r⟩:=c;exact⟨o,es,ep,k1 _ o E,r⟩
  refine L2.loop W s.heap.objs.size hDf s.heap key O N (λi v hi hv'=>?_) (λi hi=>?_) (by rw[l];exact hsz) its.length 0 _ [] rfl (b_ _) Xw QN (b_ _) (λb o _ _ e=>k1 b o (k0 b o e)) λh2 Yo U k2=>?_
  .obtain⟨t,pp,z,J,_⟩:=g i (by rw[<-l];exact hi)
   have e:its[i]?=some v:=by simpa using hv'
   rw[z] at e;cases e;have Y:t<s.heap.objs.size:=J.lt;exact⟨t,rfl,bG Y,by simp only[bS];exact bG (lt_trans Y hI),J⟩
  .obtain⟨t,pp,z,J,B,P,M,y⟩:=g i (by rw[<-l];exact hi)
   rw[P];exact nv M
  .have hn:H s.heap.objs.size=none:=I.ar.fresh (aJ _)
   have Sv:∀b o,s.heap.get? b=some o->h2.get? b=some o:=λb o e=>by
    have hb:b<s.heap.objs.size:=aW e;exact k2 b o (bG hb) (by simp only[bS];exact bG (lt_trans hb hI)) (k1 b o (k0 b o e))
   rw[List.drop_zero,l] at U;have hkv:KV (putAll ps) ((range ps.length).foldl (λacc j=>stored acc (key j) (N j)) []):=Sx rfl λi pp e=>by
    obtain⟨t,pp',z,J,B,P,M,y⟩:=g i (bK.mp e).1;rw[e] at B;cases B;exact⟨P,y⟩
   have hns:(s.heap.objs.size==sysModules)=false:=beq_false_of_ne (mQ I.big);refine⟨rfl,.ref s.heap.objs.size,_,I.laid (t':=Yo) (o:=.dK (putAll ps)) Sv (aJ _) ⟨?_,hns,_,hkv,U⟩,rfl,q _ hn⟩;have:=V0 ps [];unfold putAll;simp only[length_nil,zero_add] at this;omega
 rcases D with⟨n,e⟩|⟨n,e⟩
 .have C:=k0 _ _ e
  refine ai (p8 (T:="list") ⟨_,C,rfl⟩ ?_);rw[aB δ];refine ai (L2.T9 (s:={s with heap:=s.heap.push {cls:=.type "dict",data:=.dict #[]}}) C hh λh1 L k1=>?_);rw[aB (show(none:Option Value).isNone=true from rfl)];refine ai (lM ?_);have m:h1.IsList p its.toArray:=⟨_,k1 _ _ C,rfl,n,rfl⟩;have x:p<h1.objs.size:=aW (k1 _ _ C);have f:s.heap.objs.size<h1.objs.size:=by obtain⟨o,_,_,E,_⟩:=c;exact aW (k1 _ _ E)
  refine ai (vo (s:={s with heap:=h1,toks:=L}) m ?_);have W:=Walks.list (prog:=X.prog) (w:=X.w) (A:=X.A.in1.in1) hh h1.objs.size p (bG x) its.toArray;rw[cE] at W;refine aK ⟨kM L2.uK _,go _ _ _ _ _ (λb o q=>bu _ (k1 b o q)) f W ⟨⟨_,cS _ rfl,rfl,rfl⟩,m.push _⟩ ?_⟩;simp only[bx,iR,iS,not_or];exact⟨bG f,Ne.symm pD⟩
 .have C:=k0 _ _ e
  refine ai (p8 (T:="tuple") ⟨_,C,rfl⟩ ?_);rw[aB δ];refine ai (L2.T_ (s:={s with heap:=s.heap.push {cls:=.type "dict",data:=.dict #[]}}) C hh λh1 L k1=>?_);rw[aB (show(none:Option Value).isNone=true from rfl)];refine ai (lM ?_);have m:h1.IsTuple p its.toArray:=⟨_,k1 _ _ C,rfl,n,rfl⟩;have x:p<h1.objs.size:=aW (k1 _ _ C);have f:s.heap.objs.size<h1.objs.size:=by obtain⟨o,_,_,E,_⟩:=c;exact aW (k1 _ _ E)
  refine ai (wpAny_pyIter_tuple (s:={s with heap:=h1,toks:=L}) m ?_);have W:=Walks.tuple (prog:=X.prog) (w:=X.w) (A:=X.A.in1.in1) hh h1.objs.size p (bG x) its.toArray;rw[cE] at W;refine aK ⟨kM L2.uK _,go _ _ _ _ _ (λb o q=>bu _ (k1 b o q)) f W ⟨⟨_,cS _ rfl,rfl,rfl⟩,m.push _⟩ ?_⟩;simp only[bx,iR,iS,not_or];exact⟨bG f,Ne.symm pD⟩
theorem Ga(a b:Bool):PySem.MeetsSeq.EqGives (.bool a) (.bool b) (a==b):=by
 intro prog w A E s Q h;exact PySem.SeqAt.EqAt.bool_bool a b prog w E Q h
theorem C9:∀{bs:FC} {a:BM},Vals (bs.map V.bl) a->a=bs.map Value.bool
 |[],_,.nil=>rfl
 |b::r,_,.cons q t=>by
  have:=C9 t;subst this;cases q;rfl
def Jg:V->Bn->Hp->VK->Prop:=λx vs H Q=>∃(l:Addr) (bs:FC) (b:Bool),x=.ref l/\vs=[.bl b]/\H l=some (.lst (bs.map V.bl))/\Q (.int (bs.countP (·==b):Nat)) H
theorem TL:lY X "list.count" Jg:=by
 intro ae s σ H x vs v o Q I d f h;obtain⟨l,bs,b,rfl,rfl,g,q⟩:=h;cases d;obtain⟨u,rfl,i⟩:=f.one;cases i;obtain⟨z,p,n,r,hl,e⟩:=I.lD g;have j:=C9 r;subst j;refine mT F.slot_list_count ⟨_,e,rfl⟩ F.entry_list_count (F.args_list_count_2 _ _) (PySem.MeetsSeq.list_count l (bs.map Value.bool).toArray n (.bool b) (λy=>match y with|.bool c=>c==b|_=>false) (λy k=>?_)) ⟨e,?_⟩
 .have a:y∈bs.map Value.bool:=by simpa using k
  obtain⟨c,_,rfl⟩:=aP.mp a;exact Ga c b
 .have m:((bs.map Value.bool).toArray.toList.countP λy=>match y with|.bool c=>c==b|_=>false)=bs.countP (·==b):=by
   show((bs.map Value.bool).countP _)=_;rw[countP_map];rfl
  rw[m];exact⟨.int _,H,I.tok _,⟨_,rfl⟩,q⟩
def Jl:V->Bn->Hp->VK->Prop:=λx vs H Q=>∃(l:Addr) (bs:FC) (b:Bool) (j:Nat),x=.ref l/\vs=[.bl b]/\H l=some (.lst (bs.map V.bl))/\bs[j]?=some b/\(∀m c,m<j->bs[m]?=some c->c≠b)/\Q (.int (j:Nat)) H
theorem TR:lY X "list.index" Jl:=by
 intro ae s σ H x vs v D Q I o p h;obtain⟨l,bs,b,j,rfl,rfl,t,k,a,q⟩:=h;cases o;obtain⟨u,rfl,w⟩:=p.one;cases w;obtain⟨z,E,n,r,hl,e⟩:=I.lD t;have A:=C9 r;subst A;have d:j<bs.length:=(bK.mp k).1;have G:bs.length<=sizeLine:=by simpa using z
 refine mT F.slot_list_index ⟨_,e,rfl⟩ F.entry_list_index (F.args_list_index_2 _ _) (PySem.MeetsSeq.list_index l (bs.map Value.bool).toArray n (.bool b) (λy=>match y with|.bool c=>c==b|_=>false) (λy B=>?_) j (by simpa using d) ?_ ?_ λm C f=>?_) ⟨e,?_⟩
 .have g:y∈bs.map Value.bool:=by simpa using B
  obtain⟨c,_,rfl⟩:=aP.mp g;exact Ga c b
 .have:(sizeLine:Nat)<2 ^ 63 - 1:=δ
  omega
 .have:=(bK.mp k).2
  simp[this]
 .have i:m<bs.length:=by simpa using C
  have:=a m _ f (aS i);simpa using this
 .exact⟨.int _,H,I.tok _,⟨_,rfl⟩,q⟩
end L2
end
namespace PySem
open Sem (wp)
namespace ZL
section
variable{prog:Program}{w:World}{A:Around}{E:aV}{s:Shared}{z TI TO i1 i2 l1 l2:Addr}{xs ys:Array Value}
theorem Nn{R:BM->Shared->Prop}(k:A.handled=none)(D:ZipApart z TI TO i1 i2 l1 l2)(L:m5 z TI TO i1 i2 l1 l2 (s.heap.objs.size+1))(O:oi z TI TO i1 i2 l1 l2 (s.heap.objs.size+1) s.heap.objs.size)(m:min xs.size ys.size<=sizeLine)
  (n:ZS z TI TO i1 i2 l1 l2 (s.heap.objs.size+1) xs ys 0 (s.heap.push {cls:= .type "list",data:= .seq #[]}))
  (h:∀h':Heap,(∀(j:Nat) x y,xs[j]? =some x->ys[j]? =some y->IsPair h' (s.heap.objs.size+1+j) x y)->s.heap.objs.size<h'.objs.size->
   (∀b o,b≠z->b≠TO->b≠i1->b≠i2->s.heap.get? b=some o->h'.get? b=some o)->R (fL (s.heap.objs.size+1) (min xs.size ys.size)).toList {s with heap:=h'}):
  wpAny (model prog w) A (collect (.ref z)) R E s:=by
 unfold collect
 refine ai (wpAny_runValue (ji PySem.F.entry_proto_collect ?_))
 rw[j4 PySem.F.plain_proto_collect _]
 show wpAny _ A.in1 (newList []>>=λl=>again (.builtin "list.__iadd__" ⟨[l,.ref z],[]⟩)) _ _ s
 refine ai (jB ?_)
 refine aK ⟨kM ze _,ji PySem.F.entry_list_iadd ?_⟩
 rw[j4 ze _]
 have c:(s.heap.push {cls:= .type "list",data:= .seq ([]:BM).toArray}).get? s.heap.objs.size=some {cls:= .type "list",data:= .seq #[]}:=cS _ rfl
 show wpAny _ A.in1 (Builtin.List.listExtendWith (.ref s.heap.objs.size) (.ref z) (.ref s.heap.objs.size)) _ _ _
 have key:=Gj (prog:=prog) (w:=w) (A:=A) (s:={s with heap:=s.heap.push {cls:= .type "list",data:= .seq ([]:BM).toArray}})
  (R:=λ(q:Result) (s':Shared)=>∃(h':Heap) (C:Nat),q= .ok (.ret (.ref s.heap.objs.size))/\s'={s with heap:=h'}/\
   (∀(j:Nat) x y,xs[j]? =some x->ys[j]? =some y->IsPair h' (s.heap.objs.size+1+j) x y)/\h'.get? s.heap.objs.size=some {cls:= .type "list",dict:=none,data:= .seq (fL (s.heap.objs.size+1) (min xs.size ys.size)) C,slots:= #[]}/\
   ∀b o,b≠z->b≠TO->b≠i1->b≠i2->s.heap.get? b=some o->h'.get? b=some o)
  k D L O m (.ref s.heap.objs.size) 0 n c
  (λh' C G H p=>⟨h',C,rfl,rfl,G,H,λb o r t u v e=>p b o (bG (aW e)) r t u v (bu _ e)⟩)
 refine jA key (λfin s' x=> ?_) λe s' x=> ?_
 .cases fin with
  |done f=>
   obtain⟨h',C,e,rfl,d,a,g⟩:=x
   cases e
   show wpAny _ A (load s.heap.objs.size>>=_) _ _ _
   refine ai (wpAny_load a ?_)
   exact aK (h h' d (aW a) g)
  |again c₁=>
   refine⟨x.1,qe x.2 λq i y=> ?_⟩
   obtain⟨h',C,rfl,rfl,d,a,g⟩:=y
   show wpAny _ A (load s.heap.objs.size>>=_) _ _ _
   refine ai (wpAny_load a ?_)
   exact aK (h h' d (aW a) g)
 .obtain⟨_,_,B,_⟩:=x
  cases B
theorem Nk{Q₁:aV}(g:A.handled=none)(i:s.TypeIs (.ref z) "zip")(D:ZipApart z TI TO i1 i2 l1 l2)(L:m5 z TI TO i1 i2 l1 l2 (s.heap.objs.size+1))(O:oi z TI TO i1 i2 l1 l2 (s.heap.objs.size+1) s.heap.objs.size)(d:min xs.size ys.size<=sizeLine)
  (k:ZS z TI TO i1 i2 l1 l2 (s.heap.objs.size+1) xs ys 0 (s.heap.push {cls:= .type "list",data:= .seq #[]}))
  (h:∀h':Heap,(∀(j:Nat) x y,xs[j]? =some x->ys[j]? =some y->IsPair h' (s.heap.objs.size+1+j) x y)->s.heap.objs.size<h'.objs.size->
   (∀b o,b≠z->b≠TO->b≠i1->b≠i2->s.heap.get? b=some o->h'.get? b=some o)->Q₁ (.ref h'.objs.size) {s with heap:=h'.push {cls:= .type "tuple",data:= .seq (fL (s.heap.objs.size+1) (min xs.size ys.size))}}):
  codeAny (model prog w) A (.call (.builtin "tuple.__new__") ⟨[.type "tuple",.ref z],[]⟩) (wants Q₁ E) s:=by
 refine codeAny_of_tree ?_
 show wpAny _ A.in1 (do checkBuiltinCall "tuple.__new__" ⟨[.type "tuple",.ref z],[]⟩;again (.builtin "tuple.__new__" ⟨[.type "tuple",.ref z],[]⟩)) _ _ s
 refine ai (wpAny_of_eq (PySem.F.newCall_tuple_1 _) (aK ⟨kM PySem.F.plain_tuple_new _,ji PySem.F.entry_tuple_new ?_⟩))
 rw[j4 PySem.F.plain_tuple_new _]
 have f:=sub_tuple_self
 have a:=init_tuple_lookup
 have l:=madeHere_tuple
 wp_walk using p8 i,Nn (A:=A.in1) g D L O d k
 intro h' m c n
 show wpAny _ _ (Builtin.Tuple.tupleExact (fL (s.heap.objs.size+1) (min xs.size ys.size)).toList.toArray>>=λv=>ret v) _ _ _
 unfold Builtin.Tuple.tupleExact
 refine ai (jB ?_ (by show(fL (s.heap.objs.size+1) (min xs.size ys.size)).toList.toArray.size<=sizeLine;simp only[zk];rw[Cw];exact d))
 refine aK ?_
 have e:(fL (s.heap.objs.size+1) (min xs.size ys.size)).toList.toArray=fL (s.heap.objs.size+1) (min xs.size ys.size):=θ
 rw[e]
 exact h h' m c n
end
section
variable{prog:Program}{w:World}{A:Around}{E:aV}{s:Shared}
theorem Yt{l1 l2:Addr}{xs ys:Array Value}{Q:aV}(u:A.handled=none)(f:s.heap.IsList l1 xs)(g:s.heap.IsList l2 ys)(v:min xs.size ys.size<=sizeLine)
  (B:∀(h':Heap) (T:Addr),(∀(j:Nat) x y,xs[j]?=some x->ys[j]?=some y->IsPair h' (s.heap.objs.size+6+j) x y/\@LT.lt Nat _ (s.heap.objs.size+6+j) T)->@LT.lt Nat _ (s.heap.objs.size+5) T->
   h'.get? T=some {cls:=.type "tuple",data:=.seq (fL (s.heap.objs.size+6) (min xs.size ys.size))}->
   (∀b o,s.heap.get? b=some o->h'.get? b=some o)->Q (.ref T) {s with heap:=h'}):
  wpAny (model prog w) A (call (.type "zip") [.ref l1,.ref l2]) (λz c=>wpAny (model prog w) A (call (.type "tuple") [z]) Q E c) E s:=by
 have C: @LT.lt Nat _ l1 s.heap.objs.size:=by obtain⟨_,e,_⟩:=f;exact aW e
 have G: @LT.lt Nat _ l2 s.heap.objs.size:=by obtain⟨_,e,_⟩:=g;exact aW e
 refine call_zip_2 f g λa S h i k l R m=>?_;have R: @Eq Nat a.objs.size (s.heap.objs.size+5):=R;have D:ZipApart (s.heap.objs.size+4) (s.heap.objs.size+2) (s.heap.objs.size+3) s.heap.objs.size (s.heap.objs.size+1) l1 l2:=by
  constructor<;>first|(show(_:Nat)<(_:Nat);omega)|(intro e;have r: @Eq Nat _ _:=e;omega)
 have L:m5 (s.heap.objs.size+4) (s.heap.objs.size+2) (s.heap.objs.size+3) s.heap.objs.size (s.heap.objs.size+1) l1 l2 (a.objs.size+1):=by
  rw[R];constructor<;>first|(show(_:Nat)<(_:Nat);omega)|(intro e;have r: @Eq Nat _ _:=e;omega)
 have O:oi (s.heap.objs.size+4) (s.heap.objs.size+2) (s.heap.objs.size+3) s.heap.objs.size (s.heap.objs.size+1) l1 l2 (a.objs.size+1) a.objs.size:=by
  rw[R];constructor<;>first|(show(_:Nat)<(_:Nat);omega)|(intro e;have r: @Eq Nat _ _:=e;omega)
 have H:ZS (s.heap.objs.size+4) (s.heap.objs.size+2) (s.heap.objs.size+3) s.heap.objs.size (s.heap.objs.size+1) l1 l2 (a.objs.size+1) xs ys 0 (a.push {cls:=.type "list",data:=.seq #[]}):=
  ⟨.inl ⟨rfl,bu _ S⟩,bu _ h,⟨_,_,bu _ i⟩,k.at λo e=>bu _ e,l.at λo e=>bu _ e,
   f.at λo e=>bu _ (m _ o e),g.at λo e=>bu _ (m _ o e),by rw[gU],λj x y I=>absurd I (Nat.not_lt_zero _)⟩
 refine callType_codes (Q₁:=λobj c=>c.TypeIs obj "tuple"/\Q obj c) called_tuple (PySem.F.typeCall_tuple_1 _) PySem.F.entry_object_init
  (Nk (s:={s with heap:=a}) (xs:=xs) (ys:=ys) u ⟨_,S,rfl⟩ D L O v H λh' J n p=>⟨⟨_,cS _ rfl,rfl⟩,?_⟩) λobj c d=>?_
 .have t:a.objs.size+1=s.heap.objs.size+6:=by rw[R]
  have q:=B (h'.push {cls:=.type "tuple",data:=.seq (fL (s.heap.objs.size+6) (min xs.size ys.size))}) h'.objs.size (λj x y K M=>?_) (by rw[<-R];exact n) (cS _ rfl) λb o e=>?_
  .show Q (.ref h'.objs.size) {s with heap:=h'.push {cls:=.type "tuple",data:=.seq (fL (a.objs.size+1) (min xs.size ys.size))}}
   rw[t];exact q
  .have pr:=J j x y K M
   have pr:IsPair h' (a.objs.size+1+j) x y:=pr;rw[t] at pr;exact⟨bu _ pr,aW pr⟩
  .have N: @LT.lt Nat _ b s.heap.objs.size:=aW e
   have ne:∀j:Nat,b≠s.heap.objs.size+j:=λj z=>by have P: @Eq Nat b (s.heap.objs.size+j):=z;omega
   exact bu _ (p b o (ne 4) (ne 3) (ne 0) (ne 1) (m b o e))
 .exact⟨d.1,PySem.F.args_object_init_2 obj _,object_init_meets called_tuple.init.lookup called_tuple.made δ prog w A.in1 _ c ⟨d.1,rfl,d.2⟩⟩
end
end ZL
end PySem
section
open PySem PySem.Spec PyProof.Rows
namespace L2
variable{X:Cx}
def Yg(K:Frag)(ta:TA):TE:=λσ H Q=>ta σ H λvs H1=>∃a b xs ys,vs=[.ref a,.ref b]/\bf K H1 a xs/\bf K H1 b ys/\
 ∀(l:Addr) (H':Hp) (ps:Bn),g_ H1 H'->H1 l=none->H' l=some (.tup ps)->ps.length=min xs.length ys.length->(∀(j:Nat) p,ps[j]?=some p->∃t x y,p=.ref t/\xs[j]?=some x/\ys[j]?=some y/\H' t=some (.tup [x,y]))->Q (.ref l) H'
theorem Vf{a b:Expr}{ta:TA}{p1 p2 C d:Pos}(S:Gl X "tuple")(U:X.mg "tuple"=none)(W:bootBuiltins "tuple"=some (.type "tuple"))(Y:Gl X "zip")(Z:X.mg "zip"=none)(hbz:bootBuiltins "zip"=some (.type "zip"))(hc:X.calm=true)(ha:PA X [a,b] ta)
  (hs:starEach [a,b] X.env=[(false,eval a X.env),(false,eval b X.env)]:=by rfl)(D:starEach [b] X.env=[(false,eval b X.env)]:=by rfl)
  (hz:starEach [.Call (.Name "zip" p2) [a,b] [] d] X.env=[(false,eval (.Call (.Name "zip" p2) [a,b] [] d) X.env)]:=by rfl):
  PE X (.Call (.Name "tuple" p1) [.Call (.Name "zip" p2) [a,b] [] d] [] C) (Yg X.K ta):=by
 intro ae s σ H Q I h
 refine kO (jr I S U W ?_)
 refine mK ?_ hz rfl
 rw[hz]
 refine vd (kO (jr I Y Z hbz (mK (aQ (ha d ae s σ H _ I h) λus c ⟨vs,H1,i,r1,q1⟩=> ?_) (by rw[hs,D]) (by rw[D];rfl))))
 obtain⟨pa,pb,xs,ys,e,hx,hy,q⟩:=q1
 subst e
 obtain⟨u1,u2,rfl,Wl,Wm⟩:=vals2 r1
 cases Wl
 cases Wm
 obtain⟨F,k,Vw,hz1⟩:=i.list hx
 obtain⟨G,m,Cg,hz2⟩:=i.list hy
 have l1:=k.length
 have l2:=m.length
 refine aQ (ZL.Yt (E:=X.xe) (Q:=EP X ae σ Q) (i.ok.hd hc) Vw.isList Cg.isList (by simp only[cE];omega) λh' T J n hS kp=> ?_) λz s2 hq=>vf hq
 have em:min F.toArray.size G.toArray.size=min xs.length ys.length:=by simp only[cE];omega
 rw[em] at hS
 have hn:∀j:Nat,H1 (c.heap.objs.size+j)=none:=λj=>i.ar.fresh (lK _ _)
 have Q0:∀j:Nat,j<min xs.length ys.length->@LT.lt Nat _ (c.heap.objs.size+6+j) T:=λj hj=>by
  have f:xs[j]? =some (xs[j]' ω):=aS _
  have g:ys[j]? =some (ys[j]' ω):=aS _
  obtain⟨u,hu,_⟩:=k.get f
  obtain⟨v,hv,_⟩:=m.get g
  exact(J j u v (by simpa using hu) (by simpa using hv)).2
 have Q3:H1 T=none:=i.ar.fresh (by show @LE.le Nat _ c.heap.objs.size T;have: @LT.lt Nat _ (c.heap.objs.size+5) T:=n;omega)
 have pair:∀j:Nat,j<min xs.length ys.length->∃x y u v,xs[j]? =some x/\ys[j]? =some y/\RelV x u/\RelV y v/\IsPair h' (c.heap.objs.size+6+j) u v:=λj hj=>by
  have f:xs[j]? =some (xs[j]' ω):=aS _
  have g:ys[j]? =some (ys[j]' ω):=aS _
  obtain⟨u,hu,ru⟩:=k.get f
  obtain⟨v,hv,t⟩:=m.get g
  exact⟨_,_,u,v,f,g,ru,t,(J j u v (by simpa using hu) (by simpa using hv)).1⟩
 let H':Hp:=λb=>if b=T then some (.tup ((range (min xs.length ys.length)).map λj=>V.ref (c.heap.objs.size+6+j))) else
  if c.heap.objs.size+6<=b/\b - (c.heap.objs.size+6)<min xs.length ys.length then some (.tup [(xs[b - (c.heap.objs.size+6)]?).getD .aD,(ys[b - (c.heap.objs.size+6)]?).getD .aD]) else H1 b
 have L:H' (T)=some (.tup ((range (min xs.length ys.length)).map λj=>V.ref (c.heap.objs.size+6+j))):=by
  show(if _ then _ else _)=_
  rw[aB rfl]
 have M:∀(j:Nat) x y,xs[j]? =some x->ys[j]? =some y->H' (c.heap.objs.size+6+j)=some (.tup [x,y]):=λj x y A B=>by
  have j1:=(bK.mp A).1
  have j2:=(bK.mp B).1
  have N:c.heap.objs.size+6+j - (c.heap.objs.size+6)=j:=Nat.add_sub_cancel_left _ _
  have O:j<min xs.length ys.length:=Nat.lt_min.mpr ⟨j1,j2⟩
  show(if _ then _ else if _ then _ else _)=_
  rw[av (λz=>by have z': @Eq Nat (c.heap.objs.size+6+j) (T):=z;have:=Q0 j O;omega),aB ⟨lK _ _,by rw[N];exact O⟩,N,A,B]
  rfl
 have hold:g_ H1 H':=λb o e=>by
  have hb: @LT.lt Nat _ b c.heap.objs.size:=i.ar.lt e
  show(if _ then _ else if _ then _ else _)=_
  rw[av (λz=>by have z': @Eq Nat b (T):=z;have: @LT.lt Nat _ (c.heap.objs.size+5) T:=n;omega),av (λz=>by have z': @LE.le Nat _ (c.heap.objs.size+6) b:=z.1;omega)]
  exact e
 have P:∀b o,H' b=some o->H1 b=some o\/(c.heap.objs.size<=b/\b9 X.prog X.w H' h' b o):=λb o e=>by
  by_cases hb:b=T
  .subst hb
   rw[L] at e
   cases e
   refine .inr ⟨by show @LE.le Nat _ c.heap.objs.size b;have: @LT.lt Nat _ (c.heap.objs.size+5) b:=n;omega,by rw[aM,pR];omega,(range (min xs.length ys.length)).map λj=>Value.ref (c.heap.objs.size+6+j),?_,⟨_,hS⟩⟩
   have:∀l:Dx,Vals (l.map λj=>V.ref (c.heap.objs.size+6+j)) (l.map λj=>Value.ref (c.heap.objs.size+6+j)):=λl=>by
    induction l with
    |nil=>exact .nil
    |cons j r ih=>exact .cons rfl ih
   exact this _
  .by_cases R:c.heap.objs.size+6<=b/\b - (c.heap.objs.size+6)<min xs.length ys.length
   .obtain⟨g1,g2⟩:=R
    have eb:b=c.heap.objs.size+6+(b - (c.heap.objs.size+6)):=(Nat.add_sub_cancel' g1).symm
    obtain⟨x,y,u,v,A,B,ru,t,pr⟩:=pair _ g2
    rw[eb,M _ x y A B] at e
    cases e
    refine .inr ⟨d7 (lK _ 6) g1,by show 2<=sizeLine;decide,[u,v],.cons ru (.cons t .nil),?_⟩
    rw[eb]
    exact⟨_,pr⟩
   .left
    have e':(if b=T then some (HO.tup ((range (min xs.length ys.length)).map λj=>V.ref (c.heap.objs.size+6+j))) else
     if c.heap.objs.size+6<=b/\b - (c.heap.objs.size+6)<min xs.length ys.length then some (.tup [(xs[b - (c.heap.objs.size+6)]?).getD .aD,(ys[b - (c.heap.objs.size+6)]?).getD .aD]) else H1 b)=some o:=e
    rw[av hb,av R] at e'
    exact e'
 refine⟨.ref (T),H',i.many (h':=h') (t':=c.toks) kp hold P,rfl,q _ H' _ hold Q3 L (by rw[aM,pR]) λj p e=> ?_⟩
 rw[bz] at e
 cases er:(range (min xs.length ys.length))[j]? with
 |none=>rw[er] at e;cases e
 |some j'=>
  rw[er] at e
  obtain⟨hj,N⟩:=bK.mp er
  rw[List.getElem_range] at N
  subst N
  cases e
  have hj':j<min xs.length ys.length:=by simpa using hj
  obtain⟨x,y,u,v,A,B,_⟩:=pair j hj'
  exact⟨_,x,y,rfl,A,B,M j x y A B⟩
theorem CN:∀{vs:BM} {e:Ap},vs.length=e.length->(∀(i:Nat) v x,vs[i]?=some v->e[i]?=some x->∃t,v=Value.str x t)->StrsAre vs e
 |[],[],_,_=>.nil
 |v::vs,x::e,hl,h=>by
  obtain⟨t,rfl⟩:=h 0 v x rfl rfl;exact .cons x t (CN (by simpa using hl) λi a b c d=>h (i+1) a b (by simpa using c) (by simpa using d))
theorem KV.at{kvs:List (Key×V)}{vs:List (Key×Value)}(r:KV kvs vs):∀{i:Nat} {q:Key×Value},vs[i]?=some q->∃p,kvs[i]?=some p/\p.1=q.1/\RelV p.2 q.2:=by
 induction r with
 |nil=>intro i q h;simp at h
 |cons h1 h2 a=>
  intro i q h;cases i with
  |zero=>simp at h;subst h;exact⟨_,rfl,h1⟩
  |succ i=>exact a (by simpa using h)
theorem KV.len{kvs:List (Key×V)}{vs:List (Key×Value)}(r:KV kvs vs):kvs.length=vs.length:=by
 induction r with
 |nil=>rfl
 |cons h1 h2 a=>simp[a]
theorem Inv.xE{ae:aZ}{σ:St}{H H':Hp}{s:Shared}{h':Heap}{t':Nat}(I:Inv X ae σ H s)(kp:∀b o,s.heap.get? b=some o->h'.get? b=some o)(d:g_ H H')
  (a:∀b o,H' b=some o->H b=some o\/((∀u,s.heap.get? b≠some u)/\b9 X.prog X.w H' h' b o)):Inv X ae σ H' {s with heap:=h',toks:=t'}:=by
 refine I.un (h':=h') (t':=t') ⟨λb o q _ _ _=>kp b o q,λb o q _ _ _=>⟨o.slots,kp b o q⟩,λb o q n _=>?_,λb o q _=>⟨o,kp b o q⟩,λb xs q=>d _ _ q,λb o u q=>d _ _ q,λb ps q=>⟨#[],by rw[d _ _ q];simp⟩⟩ λb o q=>?_
 .cases e:H' b with
  |none=>rfl
  |some u=>
   rcases a b u e with z|⟨z,_⟩
   .rw[n] at z;cases z
   .exact absurd q (z _)
 .rcases a b o q with z|⟨_,z⟩
  .exact(I.ar b o z).stay (λc v _ r=>kp c v r) (λc r=>d _ _ r) λc xs r=>d _ _ r
  .exact z
theorem M8(hc:X.calm=true):fy X (.builtin "sorted") (λxs H Q=>∃(d:Addr) (kvs:List (Key×V)) (ns:Ap),xs=[.ref d]/\H d=some (.dK kvs)/\kvs.map (·.1)=ns.map Sum.inr/\ns.Nodup/\ns.length<64/\
  ∀(l:Addr) (ys:Ap),H l=none->ys.Pairwise strLt->(∀x,x∈ys↔x∈ns)->Q (.ref l) (ax H l (.lst (ys.map V.str)))):=by
 intro ae s σ H xs us Q I r h;obtain⟨d,kvs,ns,rfl,hd,M,G,B,q⟩:=h;obtain⟨u,rfl,Y⟩:=vals1 r;cases Y;obtain⟨hz,Z,vs,rel,dd⟩:=(show b9 X.prog X.w H s.heap d (.dK kvs) from I.ar d _ hd);obtain⟨ep,J⟩:=dd.dictAt;have C:kvs.length=ns.length:=by
  have:=bM List.length M;simpa using this
 have c:vs.length=ns.length:=by rw[<-rel.len,C]
 refine zc kind_sorted plain_sorted entry_sorted (args_sorted1 _) ?_;unfold Builtin.«sorted»;refine ai (m:=checkCount "sorted" 1 1 _) (aK ?_);refine ai (PySem.W.kdu_collect (A:=X.A.in1) (kdl_dict (knd:=c9 X.prog X.w) (kvs:=vs) (ep:=ep) Z) (I.ok.hd hc) J (by rw[c];omega) λh1 N acc k1 a=>?_);have f:StrsAre acc.toList ns:=by
  refine CN (by rw[iB,a.1,c]) λi v x O e2=>?_;rw[nY] at O;obtain⟨k,y,e3,P⟩:=a.2 i v O;obtain⟨p,e5,e6,_⟩:=rel.at e3;have R:(kvs.map (·.1))[i]?=some k:=by rw[bz,e5];exact bM some e6
  rw[M,bz,e2] at R;have e8:k=Sum.inr x:=(Option.some.inj R).symm;rw[e8] at P;rcases ja (show kC (Sum.inr x) v=true from P) with⟨_,_,z,_⟩|⟨x',t,z,z2⟩
  .cases z
  .cases z;exact⟨t,z2⟩
 have K:acc.toList.length<64:=by rw[iB,a.1,c];exact B
 refine ai (vn ?_);have g:(h1.push (seqObj "list" acc.toList.toArray 0)).get? h1.objs.size=some (seqObj "list" acc.toList.toArray 0):=cS _ rfl;show wpAny _ _ _ _ _ {s with heap:=h1.push (seqObj "list" acc.toList.toArray 0),toks:=N};refine ai (fV (jY zg ⟨_,g,rfl⟩ zz (list_sort_treeK strKind_oneLt g f.keysOf (λS T rest e=>keyKind_strs (by rw[<-e];exact f)) K λj a1 a2=>⟨_,rfl,?_⟩) (zy _)));obtain⟨D,q1,L,q3⟩:=sorted_out_str f a1 a2;obtain⟨e,he⟩:=zh (out:=(arrOf j).map (·.2)) g;have kp:∀b o,s.heap.get? b=some o->(sortedHeap (h1.push (seqObj "list" acc.toList.toArray 0)) h1.objs.size acc.toList ((arrOf j).map (·.2))).get? b=some o:=λb o q=>by
  have n:=k1 b o q;rw[zj (bG (aW n)) (by rw[rJ];exact jh (aW n))];exact bu _ n
 have E:∀u,s.heap.get? h1.objs.size≠some u:=λu z=>gu _ (aW (k1 _ _ z));have U:H h1.objs.size=none:=by
  cases e0:H h1.objs.size with
  |none=>rfl
  |some o=>
   obtain⟨u,z⟩:=(I.ar _ _ e0).obj;exact absurd z (E u)
 refine aK ⟨_,rfl,.ref h1.objs.size,ax H h1.objs.size (.lst (D.map V.str)),?_,rfl,q _ D U (Lg (K7 q3) (L.nodup_iff.mpr G)) λx=>L.mem_iff⟩;refine I.xE (t':=N) kp (g_.new U _) λb o F=>?_;by_cases n:b=h1.objs.size
 .subst n
  rw[dZ] at F;cases F;refine .inr ⟨E,?_⟩;refine⟨by rw[aM,L.length_eq];exact gK (dj B δ),((arrOf j).map (·.2)).toList,e,yZ q1,?_⟩;rw[zk];exact he
 .rw[aY n] at F
  exact .inl F
end L2
end
namespace MA
theorem HM{b d:Int}(g:0<b)(hd:0<d):0<b*d/(Int.gcd b d:Int)/\b∣b*d/(Int.gcd b d:Int)/\d∣b*d/(Int.gcd b d:Int)/\b*d/(Int.gcd b d:Int)<=b*d:=by
 have i:0<(Int.gcd b d:Int):=by
  have:0<Int.gcd b d:=Int.gcd_pos_of_ne_zero_right _ ω;omega
 obtain⟨a,c⟩:=gcd_dvd_left b d;obtain⟨k,e⟩:=Int.gcd_dvd_right b d;have f:b*d/(Int.gcd b d:Int)=a*d:=by
  conv=>lhs;lhs;lhs;rw[c]
  rw[mP,zu _ ω]
 have j:b*d/(Int.gcd b d:Int)=b*k:=by
  conv=>lhs;lhs;rhs;rw[e]
  rw[nJ (Int.gcd b d:Int) k,<-mP,Int.mul_ediv_cancel _ ω]
 refine⟨?_,⟨k,j⟩,⟨a,by rw[f,nJ]⟩,r8 _ (dM (dm g hd))⟩;rw[f];refine dm ?_ hd;rcases Int.lt_or_le 0 a with h|h
 .exact h
 .have:(Int.gcd b d:Int)*a<=0:=Int.mul_nonpos_of_nonneg_of_nonpos (dM i) h
  omega
def bot:Fu->Int->Int
 |[],b=>b
 |x::r,b=>bot r (b*(rf x).2/(Int.gcd b (rf x).2:Int))
theorem om:∀(xs:Fu) (b:Int),0<b->0<bot xs b/\b∣bot xs b/\∀x∈xs,(rf x).2∣bot xs b
 |[],b,h=>⟨h,Int.dvd_refl _,θ⟩
 |x::r,b,h=>by
  obtain⟨h1,h2,c,_⟩:=HM h (cj x);obtain⟨d,a,e⟩:=om r _ h1;refine⟨d,dvd_trans h2 a,λy hy=>?_⟩;rcases bx.mp hy with rfl|hy
  .exact dvd_trans c a
  .exact e y hy
theorem bot_le(D:Int)(c:1<=D):∀(xs:Fu) (b:Int),0<b->(∀x∈xs,(rf x).2<=D)->bot xs b<=b*D ^ xs.length
 |[],b,_,_=>by simp[bot]
 |x::r,b,h,a=>by
  obtain⟨h1,h2,f,d⟩:=HM h (cj x);have:=bot_le D c r _ h1 λy e=>a y (bq _ e);refine fh this ?_;rw[iA,jz,nJ (D ^ r.length) D,<-mP];refine zv ?_ (nL ω);exact fh d (rV (a x θ) (dM h))
def fj:Fn->Int->Int
 |[],d=>d
 |n::r,d=>fj r (Int.gcd d n:Int)
theorem tM:∀(ns:Fn) (d:Int),0<=d->0<=fj ns d/\fj ns d∣d/\(∀n∈ns,fj ns d∣n)/\∀k,k∣d->(∀n∈ns,k∣n)->k∣fj ns d
 |[],d,h=>⟨h,Int.dvd_refl _,θ,λk a _=>a⟩
 |n::r,d,h=>by
  obtain⟨e,b,f,g⟩:=tM r (Int.gcd d n:Int) ω;refine⟨e,dvd_trans b (gcd_dvd_left d n),λm hm=>?_,λk a c=>g k (Int.dvd_coe_gcd a (c n θ)) λm hm=>c m (bq _ hm)⟩;rcases bx.mp hm with rfl|hm
  .exact dvd_trans b (Int.gcd_dvd_right d m)
  .exact f m hm
theorem wI{ns:Fn}{d:Int}(h:0<=d){n:Int}(a:n∈ns)(b:0<n):0<fj ns d/\fj ns d<=n:=by
 obtain⟨f,g,c,i⟩:=tM ns d h;have hd:=c n a;have hle:=le_of_dvd b hd;refine⟨?_,hle⟩;rcases Int.lt_or_le 0 (fj ns d) with z|z
 .exact z
 .have e:fj ns d=0:=ω
  rw[e] at hd;have:=Int.zero_dvd.mp hd;omega
def ups(xs:Fu):Fn:=xs.map λx=>(rf x).1*(bot xs 1/(rf x).2)
def lw(xs:Fu):Fn:=(ups xs).map (·/fj (ups xs) 0)
theorem YJ{xs:Fu}{x:Rat}(a:x∈xs):(((rf x).1*(bot xs 1/(rf x).2):Int):Rat)=(bot xs 1:Rat)*x:=by
 obtain⟨h1,_,b⟩:=om xs 1 δ;obtain⟨k,c⟩:=b x a;have d:=gP (fW (cj x));rw[c,zu _ (fW (cj x)),gv,gv];have e:=gc x;grind
theorem yY{xs:Fu}{x:Rat}(a:x∈xs)(b:0<x):0<(rf x).1*(bot xs 1/(rf x).2):=by
 obtain⟨h1,_,c⟩:=om xs 1 δ;refine dm (cV b) ?_;exact Int.ediv_pos_of_pos_of_dvd h1 (dM (cj x)) (c x a)
theorem H8(xs:Fu):(lw xs).length=xs.length:=by simp[lw,ups]
theorem Tf{xs:Fu}(f:∀x∈xs,0<x)(b:xs≠[]):∃c:Rat,0<c/\(lw xs).map (λn:Int=>(n:Rat))=xs.map (c*·):=by
 obtain⟨x0,a⟩:∃x,x∈xs:=by
  cases xs with
  |nil=>exact absurd rfl b
  |cons x r=>exact⟨x,θ⟩
 have m0:(rf x0).1*(bot xs 1/(rf x0).2)∈ups xs:=aP.mpr ⟨x0,a,rfl⟩;obtain⟨d,_⟩:=wI (p7 0) m0 (yY a (f x0 a));obtain⟨_,_,g,_⟩:=tM (ups xs) 0 (p7 0);have h:=gP (fW d);obtain⟨i,_,_⟩:=om xs 1 δ;refine⟨(bot xs 1:Rat)/(fj (ups xs) 0:Rat),?_,?_⟩
 .rw[rW]
  exact mS (by exact_mod_cast i) (vz.mpr (by exact_mod_cast d))
 .unfold lw
  rw[br];conv=>lhs;rw[show ups xs=xs.map (λx=>(rf x).1*(bot xs 1/(rf x).2)) from rfl]
  rw[br];refine mL λx e=>?_;have j:(rf x).1*(bot xs 1/(rf x).2)∈ups xs:=aP.mpr ⟨x,e,rfl⟩;obtain⟨k,l⟩:=g _ j;have m:=YJ e;show((((rf x).1*(bot xs 1/(rf x).2))/fj (ups xs) 0:Int):Rat)=_;rw[l] at m ⊢;rw[zu _ (fW d)];rw[gv] at m;grind
theorem Te{xs:Fu}(d:∀x∈xs,0<x):∀n∈lw xs,1<=n:=by
 intro n e;obtain⟨u,b,rfl⟩:=aP.mp e;obtain⟨x,c,rfl⟩:=aP.mp b;have a:=yY c (d x c);obtain⟨f,gl⟩:=wI (p7 0) b a;have:=(Int.le_ediv_iff_mul_le f).mpr (by rw[one_mul];exact gl:1*fj (ups xs) 0<=_);exact this
theorem Td{xs:Fu}(f:∀x∈xs,0<x)(b:xs≠[]){k:Int}(g:∀n∈lw xs,k∣n):k∣1:=by
 obtain⟨x0,a⟩:∃x,x∈xs:=by
  cases xs with
  |nil=>exact absurd rfl b
  |cons x r=>exact⟨x,θ⟩
 have m0:(rf x0).1*(bot xs 1/(rf x0).2)∈ups xs:=aP.mpr ⟨x0,a,rfl⟩;obtain⟨c,_⟩:=wI (p7 0) m0 (yY a (f x0 a));obtain⟨_,_,l,m⟩:=tM (ups xs) 0 (p7 0);have h:fj (ups xs) 0*k∣fj (ups xs) 0:=by
  refine m _ (Int.dvd_zero _) λn d=>?_;obtain⟨j,e⟩:=l n d;have h1:n/fj (ups xs) 0∈lw xs:=aP.mpr ⟨n,d,rfl⟩;obtain⟨i,hi⟩:=g _ h1;rw[e,zu _ (fW c)] at hi;exact⟨i,by rw[e,hi,mP]⟩
 obtain⟨i,hi⟩:=h;refine⟨i,?_⟩;have:fj (ups xs) 0*1=fj (ups xs) 0*(k*i):=by rw[Int.mul_one,<-mP];exact hi
 exact Int.eq_of_mul_eq_mul_left (fW c) this
end MA
section
open PySem PySem.Spec PyProof.Rows
namespace L2
inductive D where
 |aD|bl (b:Bool)|int (i:Int)|str (x:Str)|tup (xs:List D)|ref (r:Nat)|fl (xs:Fn)|exc (c:Str)
abbrev _root_.Bi:=List D
inductive C where
 |lst (xs:Bi)|dct (kvs:List (Key×D))|bI (o:Obj) (kvs:List (Key×D))|ins (cl:Str) (fs:List (Str×D))
abbrev Ar:=List C
abbrev Io:=Nat->Addr
section
variable(mg:ay)
mutual
def RV(ι:Io)(n:Nat)(H:Hp):D->V->Prop
 |.aD,v=>v=.aD
 |.bl b,v=>v=.bl b
 |.int i,v=>v=.int i
 |.str x,v=>v=.str x
 |.tup ds,v=>∃a xs,v=.ref a/\H a=some (.tup xs)/\aj ι n H ds xs
 |.ref r,v=>r<n/\v=.ref (ι r)
 |.fl ns,v=>∃a o,v=.ref a/\H a=some (.bW o (.lst (ns.map V.int)))
 |.exc c,v=>∃a C,v=.ref a/\mg c=some (.ref C)/\H a=some (qG a C)
def aj(ι:Io)(n:Nat)(H:Hp):Bi->Bn->Prop
 |[],xs=>xs=[]
 |d::ds,xs=>∃x r,xs=x::r/\RV ι n H d x/\aj ι n H ds r
end
def RK(ι:Io)(n:Nat)(H:Hp):List (Key×D)->List (Key×V)->Prop
 |[],xs=>xs=[]
 |p::ds,xs=>∃x r,xs=(p.1,x)::r/\RV mg ι n H p.2 x/\RK ι n H ds r
def RF(ι:Io)(n:Nat)(H:Hp):List (Str×D)->List (Str×V)->Prop
 |[],xs=>xs=[]
 |p::ds,xs=>∃x r,xs=(p.1,x)::r/\RV mg ι n H p.2 x/\RF ι n H ds r
def CO(ι:Io)(n:Nat)(H:Hp)(a:Addr):C->Prop
 |.lst ds=>∃xs,H a=some (.lst xs)/\aj mg ι n H ds xs
 |.dct kvs=>∃xs,H a=some (.dK xs)/\RK mg ι n H kvs xs
 |.bI o kvs=>∃xs,H a=some (.bW o (.dK xs))/\RK mg ι n H kvs xs
 |.ins cl fs=>∃Cc dx xs,mg cl=some (.ref Cc)/\H a=some (.ins Cc dx xs)/\RF mg ι n H fs xs
structure RA(ι:Io)(H:Hp)(A:Ar):Prop where
 iZ:∀r c,A[r]? =some c->CO mg ι A.length H (ι r) c
 inj:∀r q,r<A.length->q<A.length->ι r=ι q->r=q
end
noncomputable def jO:HO->Bool
 |.lst _|.dK _|.bW _ (.dK _)|.ins _ _ _=>true
 |_=>false
structure Ext(A:Ar)(ι:Io)(H:Hp)(A':Ar)(ι':Io)(H':Hp):Prop where
 len:A.length<=A'.length
 ag:∀r,r<A.length->ι' r=ι r
 im:∀r,r<A.length->∃o,H (ι r)=some o/\jO o=true
 mo:∀b o,H b=some o->(∀r,r<A.length->ι r≠b)->H' b=some o
 nw:∀r,A.length<=r->r<A'.length->H (ι' r)=none
 al:∀b o,H b=some o->∃o',H' b=some o'
theorem Ext.fix{A A':Ar}{ι ι':Io}{H H':Hp}(e:Ext A ι H A' ι' H'){b:Addr}{o:HO}(a:jO o=false)(h:H b=some o):H' b=some o:=e.mo b o h λr c z=>by
 obtain⟨u,h1,h2⟩:=e.im r c;rw[z,h] at h1;cases h1;rw[a] at h2;cases h2
theorem Ext.trans{A f g:Ar}{ι e d:Io}{H H1 H2:Hp}(a:Ext A ι H f e H1)(b:Ext f e H1 g d H2):Ext A ι H g d H2 where
 len:=d7 a.len b.len
 ag:=λr h=>(b.ag r (dj h a.len)).trans (a.ag r h)
 im:=a.im
 mo:=λc o h i=>b.mo c o (a.mo c o h i) λr j z=>by
  by_cases hl:r<A.length
  .rw[a.ag r hl] at z;exact i r hl z
  .have:=a.nw r ω j
   rw[z,h] at this;cases this
 nw:=λr h1 h2=>by
  by_cases hl:r<f.length
  .rw[b.ag r hl];exact a.nw r h1 hl
  .have n1:=b.nw r ω h2
   cases q:H (d r) with
   |none=>rfl
   |some o=>
    obtain⟨o',h'⟩:=a.al _ o q
    rw[h'] at n1;cases n1
 al:=λc o h=>by
  obtain⟨k,h1⟩:=a.al c o h
  exact b.al c k h1
section
variable{mg:ay}{A A':Ar}{ι ι':Io}{H H':Hp}
section
variable{n n':Nat}
mutual
theorem RV.ag(k:n<=n')(e:∀r,r<n->ι' r=ι r)(i:∀b o,jO o=false->H b=some o->H' b=some o):∀(d:D) (v:V),RV mg ι n H d v->RV mg ι' n' H' d v
 |.aD,_,h=>h
 |.bl _,_,h=>h
 |.int _,_,h=>h
 |.str _,_,h=>h
 |.tup ds,v,h=>by
  obtain⟨a,xs,f,g,j⟩:=h;exact⟨a,xs,f,i _ _ rfl g,aj.ag k e i ds xs j⟩
 |.ref r,v,h=>⟨dj h.1 k,by rw[e r h.1];exact h.2⟩
 |.fl ns,v,h=>by
  obtain⟨a,o,f,g⟩:=h;exact⟨a,o,f,i _ _ rfl g⟩
 |.exc c,v,h=>by
  obtain⟨a,C,f,g,j⟩:=h;exact⟨a,C,f,g,i _ _ rfl j⟩
theorem aj.ag(c:n<=n')(a:∀r,r<n->ι' r=ι r)(e:∀b o,jO o=false->H b=some o->H' b=some o):∀(ds:Bi) (vs:Bn),aj mg ι n H ds vs->aj mg ι' n' H' ds vs
 |[],_,h=>h
 |d::ds,vs,h=>by
  obtain⟨x,r,f,g,i⟩:=h;exact⟨x,r,f,RV.ag c a e d x g,aj.ag c a e ds r i⟩
end
theorem RK.ag(c:n<=n')(a:∀r,r<n->ι' r=ι r)(e:∀b o,jO o=false->H b=some o->H' b=some o):∀(ds:List (Key×D)) (vs:List (Key×V)),RK mg ι n H ds vs->RK mg ι' n' H' ds vs
 |[],_,h=>h
 |d::ds,vs,h=>by
  obtain⟨x,r,f,g,i⟩:=h;exact⟨x,r,f,RV.ag c a e _ x g,RK.ag c a e ds r i⟩
theorem RF.ag(c:n<=n')(a:∀r,r<n->ι' r=ι r)(e:∀b o,jO o=false->H b=some o->H' b=some o):∀(ds:List (Str×D)) (vs:List (Str×V)),RF mg ι n H ds vs->RF mg ι' n' H' ds vs
 |[],_,h=>h
 |d::ds,vs,h=>by
  obtain⟨x,r,f,g,i⟩:=h;exact⟨x,r,f,RV.ag c a e _ x g,RF.ag c a e ds r i⟩
theorem CO.ag{a:Addr}(g:n<=n')(d:∀r,r<n->ι' r=ι r)(i:∀b o,jO o=false->H b=some o->H' b=some o)(j:∀o,H a=some o->H' a=some o):∀(c:C),CO mg ι n H a c->CO mg ι' n' H' a c
 |.lst ds,h=>by
  obtain⟨xs,e,f⟩:=h;exact⟨xs,j _ e,aj.ag g d i ds xs f⟩
 |.dct ds,h=>by
  obtain⟨xs,e,f⟩:=h;exact⟨xs,j _ e,RK.ag g d i ds xs f⟩
 |.bI o ds,h=>by
  obtain⟨xs,e,f⟩:=h;exact⟨xs,j _ e,RK.ag g d i ds xs f⟩
 |.ins cl ds,h=>by
  obtain⟨k,dx,xs,l,e,f⟩:=h;exact⟨k,dx,xs,l,j _ e,RF.ag g d i ds xs f⟩
end
theorem RV.ext(e:Ext A ι H A' ι' H')(d:D)(v:V)(h:RV mg ι A.length H d v):RV mg ι' A'.length H' d v:=RV.ag e.len e.ag (λ_ _ m h=>e.fix m h) d v h
theorem aj.ext(e:Ext A ι H A' ι' H')(d:Bi)(v:Bn)(h:aj mg ι A.length H d v):aj mg ι' A'.length H' d v:=aj.ag e.len e.ag (λ_ _ m h=>e.fix m h) d v h
theorem RK.ext(e:Ext A ι H A' ι' H')(d:List (Key×D))(v:List (Key×V))(h:RK mg ι A.length H d v):RK mg ι' A'.length H' d v:=RK.ag e.len e.ag (λ_ _ m h=>e.fix m h) d v h
theorem CO.ext{a:Addr}(e:Ext A ι H A' ι' H')(b:∀o,H a=some o->H' a=some o)(c:C)(h:CO mg ι A.length H a c):CO mg ι' A'.length H' a c:=CO.ag (a:=a) (H:=H) (H':=H') e.len e.ag (λ_ _ m h=>e.fix m h) b c h
theorem aj.length:∀{ds:Bi} {vs:Bn} {n:Nat},aj mg ι n H ds vs->ds.length=vs.length
 |[],vs,_,h=>by have h':vs=[]:=h;rw[h'];rfl
 |d::ds,vs,n,h=>by
  obtain⟨x,r,rfl,_,a⟩:=h;simp[aj.length a]
theorem aj.get:∀{ds:Bi} {vs:Bn} {n i:Nat} {d:D},aj mg ι n H ds vs->ds[i]?=some d->∃v,vs[i]?=some v/\RV mg ι n H d v
 |[],_,_,_,_,_,e=>by simp at e
 |d::ds,vs,n,0,c,h,e=>by
  obtain⟨x,r,rfl,a,_⟩:=h;simp at e;subst e;exact⟨x,rfl,a⟩
 |d::ds,vs,n,i+1,c,h,e=>by
  obtain⟨x,r,rfl,_,b⟩:=h;obtain⟨v,h1,h2⟩:=aj.get (i:=i) b (by simpa using e);exact⟨v,by simpa using h1,h2⟩
theorem aj.app:∀{ds es:Bi} {vs ws:Bn} {n:Nat},aj mg ι n H ds vs->aj mg ι n H es ws->aj mg ι n H (ds++es) (vs++ws)
 |[],_,vs,_,_,h,q=>by have h':vs=[]:=h;rw[h'];exact q
 |d::ds,es,vs,ws,n,h,q=>by
  obtain⟨x,r,rfl,a,b⟩:=h;exact⟨x,r++ws,rfl,a,aj.app b q⟩
theorem aj.take:∀{ds:Bi} {vs:Bn} {n:Nat} (k:Nat),aj mg ι n H ds vs->aj mg ι n H (ds.take k) (vs.take k)
 |ds,vs,n,0,h=>by simp[aj]
 |[],vs,n,k+1,h=>by have h':vs=[]:=h;rw[h'];simp[aj]
 |d::ds,vs,n,k+1,h=>by
  obtain⟨x,r,rfl,a,b⟩:=h;exact⟨x,r.take k,rfl,a,aj.take k b⟩
theorem aj.drop:∀{ds:Bi} {vs:Bn} {n:Nat} (k:Nat),aj mg ι n H ds vs->aj mg ι n H (ds.drop k) (vs.drop k)
 |ds,vs,n,0,h=>by simpa using h
 |[],vs,n,k+1,h=>by have h':vs=[]:=h;rw[h'];simp[aj]
 |d::ds,vs,n,k+1,h=>by
  obtain⟨x,r,rfl,b,a⟩:=h;exact aj.drop k a
theorem aj.set:∀{ds:Bi} {vs:Bn} {n:Nat} (i:Nat) {d:D} {v:V},aj mg ι n H ds vs->RV mg ι n H d v->aj mg ι n H (ds.set i d) (vs.set i v)
 |[],vs,n,i,_,_,h,_=>by have h':vs=[]:=h;rw[h'];simp[aj]
 |d::ds,vs,n,0,_,_,h,q=>by
  obtain⟨x,r,rfl,b,a⟩:=h;exact⟨_,r,rfl,q,a⟩
 |d::ds,vs,n,i+1,_,_,h,q=>by
  obtain⟨x,r,rfl,b,a⟩:=h;exact⟨x,_,rfl,b,aj.set i a q⟩
theorem RA.im(R:RA mg ι H A):∀r,r<A.length->∃o,H (ι r)=some o/\jO o=true:=λr h=>by
 obtain⟨d,b⟩:∃d,A[r]?=some d:=⟨A[r],by rw[aS h]⟩;have:=R.iZ r d b;cases d with
 |lst ds=>obtain⟨xs,a,_⟩:=this;exact⟨_,a,rfl⟩
 |dct ds=>obtain⟨xs,a,_⟩:=this;exact⟨_,a,rfl⟩
 |bI o ds=>obtain⟨xs,a,_⟩:=this;exact⟨_,a,rfl⟩
 |ins cl ds=>obtain⟨c,dx,xs,_,a,_⟩:=this;exact⟨_,a,rfl⟩
theorem RA.refl(R:RA mg ι H A):Ext A ι H A ι H:=⟨aJ _,λ_ _=>rfl,R.im,λ_ _ h _=>h,λr h1 h2=>absurd h2 ω,λ_ o h=>⟨o,h⟩⟩
theorem RA.tH(R:RA mg ι H A){p:Addr}{o:HO}(a:H p=none):Ext A ι H A ι (ax H p o):=
 ⟨aJ _,λ_ _=>rfl,R.im,λb u h _=>by rw[aY (di h a)];exact h,λr h1 h2=>absurd h2 ω,λb u h=>⟨u,by rw[aY (di h a)];exact h⟩⟩
theorem RA.AW(R:RA mg ι H A){p:Addr}{o:HO}{c:C}(a:H p=none):Ext A ι H (A++[c]) (λr=>if r=A.length then p else ι r) (ax H p o):=
 ⟨θ,λr h=>by
  show(if r=A.length then p else ι r)=ι r;rw[av ω],R.im,λb u h _=>by rw[aY (di h a)];exact h,λr h1 h2=>by
  have e:r=A.length:=by simp at h2;omega
  show H (if r=A.length then p else ι r)=none;rw[aB e];exact a,λb u h=>⟨u,by rw[aY (di h a)];exact h⟩⟩
theorem RA.nc(R:RA mg ι H A){r:Nat}{o:HO}{c:C}(d:r<A.length):Ext A ι H (A.set r c) ι (ax H (ι r) o):=
 ⟨θ,λ_ _=>rfl,R.im,λb u h f=>by rw[aY (λe=>f r d e.symm)];exact h,λq h1 h2=>absurd h2 (by simp;omega),λb u h=>by
  by_cases a:b=ι r
  .subst a;exact⟨o,dZ⟩
  .exact⟨u,by rw[aY a];exact h⟩⟩
theorem RA.fix(R:RA mg ι H A)(e:Ext A ι H A ι H')(k:∀b o,H b=some o->H' b=some o):RA mg ι H' A:=⟨λr c h=>CO.ext e (λo q=>k _ o q) c (R.iZ r c h),R.inj⟩
theorem RA.push{p:Addr}{o:HO}{c:C}(R:RA mg ι H A)(e:H p=none)(hc:CO mg (λr=>if r=A.length then p else ι r) (A.length+1) (ax H p o) p c):
  RA mg (λr=>if r=A.length then p else ι r) (ax H p o) (A++[c])/\Ext A ι H (A++[c]) (λr=>if r=A.length then p else ι r) (ax H p o):=by
 have E:Ext A ι H (A++[c]) (λr=>if r=A.length then p else ι r) (ax H p o):=R.AW e;have i:∀r,r<A.length->∃u,H (ι r)=some u:=λr h=>by
  obtain⟨l,f⟩:∃l,A[r]?=some l:=⟨A[r],by rw[aS h]⟩;have:=R.iZ r l f;cases l with
  |lst ds=>obtain⟨xs,b,_⟩:=this;exact⟨_,b⟩
  |dct ds=>obtain⟨xs,b,_⟩:=this;exact⟨_,b⟩
  |bI o ds=>obtain⟨xs,b,_⟩:=this;exact⟨_,b⟩
  |ins cl ds=>obtain⟨k,dx,xs,_,b,_⟩:=this;exact⟨_,b⟩
 refine⟨⟨λr l h=>?_,λr q g j h=>?_⟩,E⟩
 .by_cases g:r<A.length
  .rw[iG g] at h
   have:=CO.ext E (a:=ι r) (λo' q=>by rw[aY (di q e)];exact q) l (R.iZ r l h);show CO mg _ _ _ (if r=A.length then p else ι r) l;rw[av ω];exact this
  .have hl:r=A.length:=by
    have:=(bK.mp h).1;simp at this;omega
   subst hl;simp at h;subst h;show CO mg _ _ _ (if A.length=A.length then p else ι A.length) c;rw[aB rfl];simpa using hc
 .simp at g j
  have h':(if r=A.length then p else ι r)=(if q=A.length then p else ι q):=h;by_cases h1:r=A.length
  .by_cases h2:q=A.length
   .rw[h1,h2]
   .rw[aB h1,av h2] at h'
    obtain⟨u,d⟩:=i q ω;rw[<-h',e] at d;cases d
  .by_cases h2:q=A.length
   .rw[av h1,aB h2] at h'
    obtain⟨u,d⟩:=i r ω;rw[h',e] at d;cases d
   .rw[av h1,av h2] at h'
    exact R.inj r q ω ω h'
theorem RA.put{r:Nat}{u o:HO}{c c':C}(R:RA mg ι H A)(i:A[r]?=some c)(m:H (ι r)=some u)(n:jO u=true)(hc:CO mg ι A.length (ax H (ι r) o) (ι r) c'):
  RA mg ι (ax H (ι r) o) (A.set r c')/\Ext A ι H (A.set r c') ι (ax H (ι r) o):=by
 have f:=(bK.mp i).1;have E:Ext A ι H (A.set r c') ι (ax H (ι r) o):=R.nc f;refine⟨⟨λq d h=>?_,λa b j k=>R.inj a b (by simpa using j) (by simpa using k)⟩,E⟩;by_cases g:q=r
 .subst g
  rw[eG f] at h;cases h;simpa using hc
 .rw[eF (Ne.symm g)] at h
  have l:=(bK.mp h).1;have:=CO.ext E (a:=ι q) (λo' z=>by rw[aY (λe=>g (R.inj q r l f e))];exact z) d (R.iZ q d h);simpa using this
end
abbrev bL:=List (Option D)
noncomputable def lk:bL->Nat->Option D
 |[],_=>none
 |x::_,0=>x
 |_::r,i+1=>lk r i
theorem qT:∀(τ:bL) (i:Nat),lk τ i=(τ[i]?).join
 |[],i=>by simp[lk]
 |x::r,0=>by simp[lk]
 |x::r,i+1=>by simp[lk,qT r i]
structure En where
 A:Ar
 ι:Io
 H:Hp
structure RS(mg:ay)(ι:Io)(n:Nat)(H:Hp)(τ:bL)(σ:St):Prop where
 len:τ.length=σ.length
 at':∀i d,lk τ i=some d->∃v,σ[i]?=some (some v)/\RV mg ι n H d v
structure eN(mg:ay)(N:En)(A:Ar)(ι:Io)(τ:bL)(σ:St)(H:Hp):Prop where
 ra:RA mg ι H A
 rs:RS mg ι A.length H τ σ
 ex:Ext N.A N.ι N.H A ι H
abbrev DK:=D->Ar->Prop
abbrev aT:=bL->Ar->DK->Prop
abbrev fH:=bL->Ar->(Bool->Ar->Prop)->Prop
abbrev dD:=bL->Ar->(Bi->Ar->Prop)->Prop
def Kt(mg:ay)(A:Ar)(ι:Io)(H:Hp)(R:DK)(Q:VK):Prop:=∀v A' ι' H' u,R v A'->Ext A ι H A' ι' H'->RA mg ι' H' A'->RV mg ι' A'.length H' v u->Q u H'
def qo(mg:ay)(A:Ar)(ι:Io)(H:Hp)(R:Bool->Ar->Prop)(Q:Bool->Hp->Prop):Prop:=∀v A' ι' H',R v A'->Ext A ι H A' ι' H'->RA mg ι' H' A'->Q v H'
def Mv(mg:ay)(A:Ar)(ι:Io)(H:Hp)(R:Bi->Ar->Prop)(Q:Bn->Hp->Prop):Prop:=∀v A' ι' H' u,R v A'->Ext A ι H A' ι' H'->RA mg ι' H' A'->aj mg ι' A'.length H' v u->Q u H'
def up(mg:ay)(N:En)(m:aT):TE:=λσ H Q=>∃A ι τ R,eN mg N A ι τ σ H/\m τ A R/\Kt mg A ι H R Q
def dJ(mg:ay)(N:En)(m:fH):TT:=λσ H Q=>∃A ι τ R,eN mg N A ι τ σ H/\m τ A R/\qo mg A ι H R Q
def fU(mg:ay)(N:En)(m:dD):TA:=λσ H Q=>∃A ι τ R,eN mg N A ι τ σ H/\m τ A R/\Mv mg A ι H R Q
section
variable{mg:ay}{N:En}{A A':Ar}{ι ι':Io}{τ:bL}{σ:St}{H H':Hp}
theorem RS.ext(e:Ext A ι H A' ι' H')(r:RS mg ι A.length H τ σ):RS mg ι' A'.length H' τ σ:=⟨r.len,λi d h=>by
 obtain⟨v,h1,h2⟩:=r.at' i d h;exact⟨v,h1,RV.ext e d v h2⟩⟩
theorem eN.next(S:eN mg N A ι τ σ H)(e:Ext A ι H A' ι' H')(r:RA mg ι' H' A'):eN mg N A' ι' τ σ H':=⟨r,S.rs.ext e,S.ex.trans e⟩
theorem Kt.from{R:DK}{Q:VK}(k:Kt mg A ι H R Q)(e:Ext A ι H A' ι' H'):Kt mg A' ι' H' R Q:=λv b a H2 u q c=>k v b a H2 u q (e.trans c)
theorem qo.from{R:Bool->Ar->Prop}{Q:Bool->Hp->Prop}(k:qo mg A ι H R Q)(e:Ext A ι H A' ι' H'):qo mg A' ι' H' R Q:=λv b a H2 q c=>k v b a H2 q (e.trans c)
theorem Kt.here{R:DK}{Q:VK}{d:D}{v:V}(k:Kt mg A ι H R Q)(r:RA mg ι H A)(q:R d A)(h:RV mg ι A.length H d v):Q v H:=k d A ι H v q r.refl r h
theorem qo.here{R:Bool->Ar->Prop}{Q:Bool->Hp->Prop}{b:Bool}(k:qo mg A ι H R Q)(r:RA mg ι H A)(q:R b A):Q b H:=k b A ι H q r.refl r
end
variable{X:Cx}
section
variable{e:Expr}
theorem dU{t a:TE}(h:PE X e t)(w:∀σ H Q,a σ H Q->t σ H Q):PE X e a:=λae s σ H Q I q=>h ae s σ H Q I (w σ H Q q)
theorem wA{t a:TT}(h:PT X e t)(w:∀σ H Q,a σ H Q->t σ H Q):PT X e a:=λae s σ H Q I q=>h ae s σ H Q I (w σ H Q q)
theorem FZ{t a:TT}(h:PW X e t)(w:∀σ H Q,a σ H Q->t σ H Q):PW X e a:=λwhole ae s σ H Q I q=>h whole ae s σ H Q I (w σ H Q q)
theorem Fv{es:DD}{t a:TA}(h:PA X es t)(w:∀σ H Q,a σ H Q->t σ H Q):PA X es a:=λpos ae s σ H Q I q=>h pos ae s σ H Q I (w σ H Q q)
theorem i8{st:Stmt}{t a:TS}(h:PS X st t)(w:∀D σ H,a D σ H->t D σ H):PS X st a:=λae s σ H D I q=>h ae s σ H D I (w D σ H q)
theorem FY{st:FK}{t a:TS}(h:dF X st t)(w:∀D σ H,a D σ H->t D σ H):dF X st a:=λae s σ H D I q=>h ae s σ H D I (w D σ H q)
end
def aX(i:Nat):aT:=λτ A R=>match lk τ i with
 |some v=>R v A
 |none=>False
def dC(d:D):aT:=λ_ A R=>R d A
variable{N:En}
section
variable{pos:Pos}
theorem Ov{i:Nat}{x:Str}(b:X.N[i]?=some x)(c:qu X.env.scope x)(hd:(x==("__debug__":Str))=false:=by decide)(a:(x==("__classdict__":Str))=false:=by decide):PE X (.Name x pos) (up X.mg N (aX i)):=
 dU (Vh b c hd a) λσ H Q h=>by
  obtain⟨A,ι,τ,R,S,h,k⟩:=h;unfold aX at h;split at h
  .rename_i v e
   obtain⟨u,h1,h2⟩:=S.rs.at' i v e;exact⟨u,h1,k.here S.ra h h2⟩
  .exact h.elim
theorem sX{e:Expr}{d:D}{v:V}(h:PE X e (tC v))(r:∀ι n H,RV X.mg ι n H d v):PE X e (up X.mg N (dC d)):=
 dU h λσ H Q h=>by
  obtain⟨A,ι,τ,R,S,h,k⟩:=h;exact k.here S.ra h (r _ _ _)
theorem ao{i j}:PE X (.Constant (.int i) j pos) (up X.mg N (dC (.int i))):=sX U5 λ_ _ _=>rfl
theorem ie{b j}:PE X (.Constant (.bool b) j pos) (up X.mg N (dC (.bl b))):=sX UU λ_ _ _=>rfl
theorem sY{j}:PE X (.Constant .none j pos) (up X.mg N (dC .aD)):=sX U_ λ_ _ _=>rfl
theorem cH{x j}:PE X (.Constant (.str x) j pos) (up X.mg N (dC (.str x))):=sX Vd λ_ _ _=>rfl
theorem oB{x:Str}{i:Int}{t:Tok}(a:X.mg x=some (.int i t))(b:Gl X x:=by rfl)(hd:(x==("__debug__":Str))=false:=by decide):PE X (.Name x pos) (up X.mg N (dC (.int i))):=
 sX (IP (v:=.int i) b a ⟨_,rfl⟩ hd) λ_ _ _=>rfl
end
abbrev fY:=D->D->Ar->DK->Prop
def fJ(mg:ay)(r:R2)(f:fY):Prop:=∀x y A ι H u v R Q,RA mg ι H A->RV mg ι A.length H x u->RV mg ι A.length H y v->f x y A R->Kt mg A ι H R Q->r u v H Q
def bO(f:fY)(ma mb:aT):aT:=λτ A R=>ma τ A λx A1=>mb τ A1 λy A2=>f x y A2 R
section
variable{pos:Pos}{a b c:Expr}{ma mb mc:aT}{f f':fY}{r r':R2}
theorem yW(h:fJ X.mg r f){σ:St}{H:Hp}{Q:VK}(q:up X.mg N (bO f ma mb) σ H Q):uW r (up X.mg N ma) (up X.mg N mb) σ H Q:=by
 obtain⟨A,ι,τ,R,S,q,k⟩:=q;have q:ma τ A (λx a=>mb τ a λy b=>f x y b R):=q;refine⟨A,ι,τ,_,S,q,λx a c H1 u i e j l=>?_⟩;refine⟨a,c,τ,_,S.next e j,i,λy b d H2 v m g n v2=>?_⟩;exact h x y b d H2 u v R Q n (RV.ext g x u l) v2 m (k.from (e.trans g))
theorem sZ{op:Operator}(c:bH X (binaryOp op) r)(hd:fJ X.mg r f)(d:PE X a (up X.mg N ma))(e:PE X b (up X.mg N mb)):PE X (.BinOp a op b pos) (up X.mg N (bO f ma mb)):=
 dU (Va c d e) λ_ _ _ h=>yW hd h
theorem Fx{op:CmpOp}(c:bH X (compareOp op) r)(hd:fJ X.mg r f)(d:PE X a (up X.mg N ma))(e:PE X b (up X.mg N mb))(g:behindInMarks op b=false):PE X (.Compare a [op] [b] pos) (up X.mg N (bO f ma mb)):=
 dU (U1 c d e g) λ_ _ _ h=>yW hd h
def fO(m:aT):fH:=λτ A R=>m τ A λx A1=>match x with
 |.bl k=>R k A1
 |_=>False
theorem C5{t:TE}{m:aT}(d:∀σ H Q,up X.mg N m σ H Q->t σ H Q){σ:St}{H:Hp}{Q:Bool->Hp->Prop}(q:dJ X.mg N (fO m) σ H Q):CW t σ H Q:=by
 obtain⟨A,ι,τ,R,S,q,k⟩:=q;refine d _ _ _ ⟨A,ι,τ,_,S,q,λx e a H1 u c f g h=>?_⟩;cases x with
 |bl b=>exact⟨b,h,k b e a H1 c f g⟩
 |_=>exact c.elim
theorem mh{op:CmpOp}(c:bH X (compareOp op) r)(hd:fJ X.mg r f)(d:PE X a (up X.mg N ma))(e:PE X b (up X.mg N mb))(g:behindInMarks op b=false):PT X (.Compare a [op] [b] pos) (dJ X.mg N (fO (bO f ma mb))):=
 wA (VX c d e g) λ_ _ _ h=>C5 (λ_ _ _ h=>yW hd h) h
def sS(f f':fY)(ma mb mc:aT):aT:=λτ A R=>ma τ A λx A1=>mb τ A1 λy A2=>f x y A2 λz A3=>match z with
 |.bl k=>cond k (mc τ A3 λw A4=>f' y w A4 R) (R (.bl false) A3)
 |_=>False
theorem Lx(h:fJ X.mg r f)(h':fJ X.mg r' f'){σ:St}{H:Hp}{Q:VK}(q:up X.mg N (sS f f' ma mb mc) σ H Q):CT r r' (up X.mg N ma) (up X.mg N mb) (up X.mg N mc) σ H Q:=by
 obtain⟨A,ι,τ,R,S,q,k⟩:=q;refine⟨A,ι,τ,_,S,q,λx s e H1 u t a m B=>?_⟩;refine⟨s,e,τ,_,S.next a m,t,λy C g H2 v D c n v2=>?_⟩;refine h x y C g H2 u v _ _ n (RV.ext c x u B) v2 D λz E i L w j d o F=>?_;cases z with
 |bl b=>
  refine⟨b,F,?_⟩;cases b with
  |true=>
   rw[aB rfl];refine⟨E,i,τ,_,((S.next a m).next c n).next d o,j,λz G l I w J p K v4=>?_⟩;exact h' y z G l I v w R Q K (RV.ext (d.trans p) y v v2) v4 J (k.from (((a.trans c).trans d).trans p))
  |false=>
   rw[av cC];exact(k.from ((a.trans c).trans d)).here o j rfl
 |_=>exact j.elim
theorem Oj{op d:CmpOp}(i:bH X (compareOp op) r)(e:bH X (compareOp d) r')(hd:fJ X.mg r f)(g:fJ X.mg r' f')(j:PE X a (up X.mg N ma))(k:PE X b (up X.mg N mb))(hc:PE X c (up X.mg N mc))
  (l:lastMarks [op,d] [b,c]=false:=by with_unfolding_all rfl):PE X (.Compare a [op,d] [b,c] pos) (up X.mg N (sS f f' ma mb mc)):=
 dU (U0 i e j k hc l) λ_ _ _ h=>Lx hd g h
theorem OQ{op d:CmpOp}(i:bH X (compareOp op) r)(e:bH X (compareOp d) r')(hd:fJ X.mg r f)(g:fJ X.mg r' f')(j:PE X a (up X.mg N ma))(k:PE X b (up X.mg N mb))(hc:PE X c (up X.mg N mc))
  (l:lastMarks [op,d] [b,c]=false:=by with_unfolding_all rfl):PT X (.Compare a [op,d] [b,c] pos) (dJ X.mg N (fO (sS f f' ma mb mc))):=
 wA (VW i e j k hc l) λ_ _ _ h=>C5 (λ_ _ _ h=>Lx hd g h) h
theorem f9{m:aT}(h:PE X a (up X.mg N m))(b:∀whole,isTrue a X.env whole=(do let v <-whole;standAt a.pos;holding [v] (truthy v)):=by intro _;rfl):PT X a (dJ X.mg N (fO m)):=
 wA (VZ h b) λ_ _ _ q=>C5 (λ_ _ _ h=>h) q
def Fe(t u:fH):fH:=λτ A R=>t τ A λc A1=>cond c (u τ A1 R) (R false A1)
def NP(t u:fH):fH:=λτ A R=>t τ A λc A1=>cond c (R true A1) (u τ A1 R)
def NO(t:fH):fH:=λτ A R=>t τ A λc A1=>R (!c) A1
variable{tA tB:fH}{rest:DD}
theorem AO(b:PT X a (dJ X.mg N tA)):PW X (.BoolOp .And [a] pos) (dJ X.mg N tA):=pw_and1 b
theorem jo(b:PT X a (dJ X.mg N tA)):PW X (.BoolOp .Or [a] pos) (dJ X.mg N tA):=pw_or1 b
theorem AN(g:PT X a (dJ X.mg N tA))(h:PW X (.BoolOp .And (b::rest) pos) (dJ X.mg N tB)):PW X (.BoolOp .And (a::b::rest) pos) (dJ X.mg N (Fe tA tB)):=
 FZ (pw_and g h) λσ H Q q=>by
  obtain⟨A,ι,τ,R,S,q,k⟩:=q;refine⟨A,ι,τ,_,S,q,λx i c H1 e d f=>?_⟩;cases x with
  |true=>rw[aB rfl];exact⟨i,c,τ,_,S.next d f,e,k.from d⟩
  |false=>rw[av cC];exact(k.from d).here f e
theorem iL(g:PT X a (dJ X.mg N tA))(h:PW X (.BoolOp .Or (b::rest) pos) (dJ X.mg N tB)):PW X (.BoolOp .Or (a::b::rest) pos) (dJ X.mg N (NP tA tB)):=
 FZ (pw_or g h) λσ H Q q=>by
  obtain⟨A,ι,τ,R,S,q,k⟩:=q;refine⟨A,ι,τ,_,S,q,λx i c H1 e d f=>?_⟩;cases x with
  |true=>rw[aB rfl];exact(k.from d).here f e
  |false=>rw[av cC];exact⟨i,c,τ,_,S.next d f,e,k.from d⟩
theorem fP(b:PT X a (dJ X.mg N tA)):PT X (.UnaryOp .Not a pos) (dJ X.mg N (NO tA)):=
 wA (VY b) λσ H Q q=>by
  obtain⟨A,ι,τ,R,S,q,k⟩:=q;exact⟨A,ι,τ,_,S,q,λx g c H1 d e f=>(k.from e).here f d⟩
def NB(ma mb:aT):aT:=λτ A R=>ma τ A λx A1=>match x with
 |.bl c=>cond c (mb τ A1 R) (R (.bl false) A1)
 |_=>False
theorem AG{op}(h:PE X a (up X.mg N ma)):PE X (.BoolOp op [a] pos) (up X.mg N ma):=U' h
theorem AD(h:PE X a (up X.mg N ma))(i:PE X (.BoolOp .And (b::rest) pos) (up X.mg N mb)):PE X (.BoolOp .And (a::b::rest) pos) (up X.mg N (NB ma mb)):=
 dU (UT h i) λσ H Q q=>by
  obtain⟨A,ι,τ,R,S,q,k⟩:=q;refine⟨A,ι,τ,_,S,q,λx j d H1 u e f g l=>?_⟩;cases x with
  |bl c=>
   refine⟨c,l,?_⟩;cases c with
   |true=>rw[aB rfl];exact⟨j,d,τ,_,S.next f g,e,k.from f⟩
   |false=>rw[av cC];exact(k.from f).here g e rfl
  |_=>exact e.elim
end
def dR:dD:=λ_ A R=>R [] A
def bE(m:aT)(n:dD):dD:=λτ A R=>m τ A λx A1=>n τ A1 λxs A2=>R (x::xs) A2
def oz(n:dD):aT:=λτ A R=>n τ A λxs A1=>xs.length<=sizeLine/\R (.tup xs) A1
def Aw(n:dD):aT:=λτ A R=>n τ A λxs A1=>xs.length<=sizeLine/\R (.ref A1.length) (A1++[.lst xs])
section
variable{pos:Pos}{e:Expr}{es:DD}{m:aT}{n:dD}
theorem ah:PA X [] (fU X.mg N dR):=Fv yu λσ H Q q=>by
 obtain⟨A,ι,τ,R,S,q,k⟩:=q;exact k [] A ι H [] q S.ra.refl S.ra rfl
theorem aa(f:PE X e (up X.mg N m))(g:PA X es (fU X.mg N n))(h:starEach (e::es) X.env=(false,eval e X.env)::starEach es X.env:=by rfl):PA X (e::es) (fU X.mg N (bE m n)):=
 Fv (pC f g h) λσ H Q q=>by
  obtain⟨A,ι,τ,R,S,q,k⟩:=q;refine⟨A,ι,τ,_,S,q,λx i a H1 u j c l o=>?_⟩;refine⟨i,a,τ,_,S.next c l,j,λy p b H2 v r d s v2=>?_⟩;exact k _ p b H2 _ r (c.trans d) s ⟨u,v,rfl,RV.ext d x u o,v2⟩
theorem B5{mg:ay}{A:Ar}{ι:Io}{H:Hp}{R:DK}{Q:VK}{ds:Bi}{xs:Bn}{p:Addr}(k:Kt mg A ι H R Q)(r:RA mg ι H A)(h:aj mg ι A.length H ds xs)(q:R (.tup ds) A)(a:H p=none):Q (.ref p) (ax H p (.tup xs)):=by
 have E:Ext A ι H A ι (ax H p (.tup xs)):=r.tH a;exact k _ A ι _ _ q E (r.fix E λb o z=>by rw[aY (di z a)];exact z) ⟨p,xs,rfl,dZ,aj.ext E ds xs h⟩
theorem kF{mg:ay}{A:Ar}{ι:Io}{H:Hp}{R:DK}{Q:VK}{ds:Bi}{xs:Bn}{p:Addr}(k:Kt mg A ι H R Q)(r:RA mg ι H A)(h:aj mg ι A.length H ds xs)(q:R (.ref A.length) (A++[.lst ds]))(a:H p=none):Q (.ref p) (ax H p (.lst xs)):=by
 have E:Ext A ι H (A++[.lst ds]) (λr=>if r=A.length then p else ι r) (ax H p (.lst xs)):=r.AW a;obtain⟨b,d⟩:=r.push (c:=.lst ds) (o:=.lst xs) a ⟨xs,dZ,by simpa using aj.ext E ds xs h⟩;refine k _ _ _ _ _ q d b ⟨θ,?_⟩;show V.ref p=V.ref (if A.length=A.length then p else ι A.length);rw[aB rfl]
theorem bP{c}(h:PA X es (fU X.mg N n)):PE X (.Tuple es c pos) (up X.mg N (oz n)):=dU (Ve h) λσ H Q q=>by
 obtain⟨A,ι,τ,R,S,q,k⟩:=q;refine⟨A,ι,τ,_,S,q,λx i d H1 u a e f b=>?_⟩;exact⟨by rw[<-aj.length b];exact a.1,λp g=>B5 (k.from e) f b a.2 g⟩
theorem dO(h:PA X es (fU X.mg N n)):PE X (.List es pos) (up X.mg N (Aw n)):=dU (U9 h) λσ H Q q=>by
 obtain⟨A,ι,τ,R,S,q,k⟩:=q;refine⟨A,ι,τ,_,S,q,λx g c H1 u a d e b=>?_⟩;exact⟨by rw[<-aj.length b];exact a.1,λp f=>kF (k.from d) e b a.2 f⟩
end
section
variable{mg:ay}{K:Frag}{A:Ar}{ι:Io}{H:Hp}
theorem RA.lst(r:RA mg ι H A){q:Nat}{ds:Bi}(h:A[q]?=some (.lst ds)):∃xs,H (ι q)=some (.lst xs)/\aj mg ι A.length H ds xs:=r.iZ q _ h
theorem RA.dct(r:RA mg ι H A){q:Nat}{ds:List (Key×D)}(h:A[q]?=some (.dct ds)):∃xs,H (ι q)=some (.dK xs)/\RK mg ι A.length H ds xs:=r.iZ q _ h
theorem RA.bI(r:RA mg ι H A){q:Nat}{o:Obj}{ds:List (Key×D)}(h:A[q]?=some (.bI o ds)):∃xs,H (ι q)=some (.bW o (.dK xs))/\RK mg ι A.length H ds xs:=r.iZ q _ h
theorem aj.ints:∀(ns:Fn) {n:Nat},aj mg ι n H (ns.map D.int) (ns.map V.int)
 |[],_=>rfl
 |i::r,n=>⟨_,_,rfl,rfl,aj.ints r⟩
theorem aj.Iq{n:Nat}{ds:Bi}(h:aj mg ι n H ds []):ds=[]:=by
 cases ds with
 |nil=>rfl
 |cons d r=>obtain⟨x,r,e,_⟩:=h;cases e
end
abbrev Jc(K:Frag):R2:=λx y H Q=>jP (λi j=>.int (i+j)) x y H Q\/(∃i j,x=.str i/\y=.str j/\i.length+j.length<=sizeLine/\Q (.str (i++j)) H)\/Jf K x y H Q\/Je x y H Q
theorem Uc{X:Cx}:bH X (binaryOp .Add) (Jc X.K):=Ur.or (Us.or (Uu.or Ut))
@[irreducible] def vX(r q:Nat)(A:Ar)(R:DK):Prop:=match A[r]?,A[q]? with
 |some (.lst xs),some (.lst ys)=>xs.length+ys.length<=sizeLine/\R (.ref A.length) (A++[.lst (xs++ys)])
 |_,_=>False
def sG:fY:=λx y A R=>match x,y with
 |.int i,.int j=>R (.int (i+j)) A
 |.str a,.str b=>a.length+b.length<=sizeLine/\R (.str (a++b)) A
 |.tup xs,.tup ys=>xs.length+ys.length<=sizeLine/\R (.tup (xs++ys)) A
 |.ref r,.ref q=>vX r q A R
 |_,_=>False
theorem NR{mg:ay}{K:Frag}:fJ mg (Jc K) sG:=by
 intro x y A ι H u v R Q ra e f h k;unfold sG at h;split at h
 .cases e;cases f
  exact .inl ⟨_,_,rfl,rfl,k.here ra h rfl⟩
 .cases e;cases f
  exact .inr (.inl ⟨_,_,rfl,rfl,h.1,k.here ra h.2 rfl⟩)
 .obtain⟨a,xs,rfl,g,c⟩:=e
  obtain⟨b,ys,rfl,i,d⟩:=f;refine .inr (.inr (.inl ⟨a,b,xs,ys,rfl,rfl,bV.of g,bV.of i,by rw[<-aj.length c,<-aj.length d];exact h.1,λz=>?_,λ_ z=>?_,λ_ _ p j=>B5 k ra (c.app d) h.2 j⟩))
  .subst z
   obtain rfl:=aj.Iq c;exact k.here ra h.2 ⟨b,ys,rfl,i,d⟩
  .subst z
   obtain rfl:=aj.Iq d;exact k.here ra h.2 ⟨a,xs,rfl,g,by rw[lN];exact c⟩
 .rename_i r q
  unfold vX at h;split at h
  .rename_i xs ys g i
   obtain⟨l,h1,c⟩:=ra.lst g;obtain⟨vs,h2,d⟩:=ra.lst i;obtain⟨_,rfl⟩:=e;obtain⟨_,rfl⟩:=f;exact .inr (.inr (.inr ⟨_,_,l,vs,rfl,rfl,h1,h2,by rw[<-aj.length c,<-aj.length d];exact h.1,λp j=>kF k ra (c.app d) h.2 j⟩))
  .exact h.elim
 .exact h.elim
def intD(C:Int->Int->Prop)(g:Int->Int->D):fY:=λx y A R=>match x,y with
 |.int i,.int j=>C i j/\R (g i j) A
 |_,_=>False
def xg(g:Int->Int->D):fY:=λx y A R=>match x,y with
 |.int i,.int j=>R (g i j) A
 |_,_=>False
theorem Az{mg:ay}{C:Int->Int->Prop}{g:Int->Int->V}{d:Int->Int->D}(a:∀i j ι n H,RV mg ι n H (d i j) (g i j)):fJ mg (rI C g) (intD C d):=by
 intro x y A ι H u v R Q ra b c h k;unfold intD at h;split at h
 .cases b;cases c
  exact⟨_,_,rfl,rfl,h.1,k.here ra h.2 (a _ _ _ _ _)⟩
 .exact h.elim
theorem Fp{mg:ay}{g:Int->Int->V}{d:Int->Int->D}(a:∀i j ι n H,RV mg ι n H (d i j) (g i j)):fJ mg (jP g) (xg d):=by
 intro x y A ι H u v R Q ra b c h k;unfold xg at h;split at h
 .cases b;cases c
  exact⟨_,_,rfl,rfl,k.here ra h (a _ _ _ _ _)⟩
 .exact h.elim
abbrev XI:fY:=xg λi j=>.int (i - j)
abbrev oZ:fY:=intD vD λi j=>.int (i*j)
abbrev OD:fY:=intD (λ_ j=>0<j/\j.natAbs.log2<9000) λi j=>.int (i/j)
abbrev TH:fY:=intD (λ_ j=>0<j) λi j=>.int (i%j)
section
variable{pos:Pos}{a b c:Expr}{ma mb mc:aT}
theorem fC(c:PE X a (up X.mg N ma))(d:PE X b (up X.mg N mb)):PE X (.BinOp a .Add b pos) (up X.mg N (bO sG ma mb)):=sZ Uc NR c d
theorem wk(c:PE X a (up X.mg N ma))(d:PE X b (up X.mg N mb)):PE X (.BinOp a .Sub b pos) (up X.mg N (bO XI ma mb)):=sZ UN (Fp λ_ _ _ _ _=>rfl) c d
theorem eT(c:PE X a (up X.mg N ma))(d:PE X b (up X.mg N mb)):PE X (.BinOp a .Mult b pos) (up X.mg N (bO oZ ma mb)):=sZ UI (Az λ_ _ _ _ _=>rfl) c d
theorem oA(c:PE X a (up X.mg N ma))(d:PE X b (up X.mg N mb)):PE X (.BinOp a .FloorDiv b pos) (up X.mg N (bO OD ma mb)):=sZ Uz (Az λ_ _ _ _ _=>rfl) c d
theorem qC(c:PE X a (up X.mg N ma))(d:PE X b (up X.mg N mb)):PE X (.BinOp a .Mod b pos) (up X.mg N (bO TH ma mb)):=sZ UH (Az λ_ _ _ _ _=>rfl) c d
def NL(m:aT):aT:=λτ A R=>m τ A λx A1=>match x with
 |.int i=>R (.int (-i)) A1
 |_=>False
theorem Ot(c:PE X a (up X.mg N ma)):PE X (.UnaryOp .USub a pos) (up X.mg N (NL ma)):=dU (Vg YG c) λσ H Q q=>by
 obtain⟨A,ι,τ,R,S,q,k⟩:=q;refine⟨A,ι,τ,_,S,q,λx h d H1 u b e f g=>?_⟩;cases x with
 |int i=>cases g;exact⟨i,rfl,(k.from e).here f b rfl⟩
 |_=>exact b.elim
end
abbrev Ju:R2:=λx y H Q=>jP (λi j=>.bl (decide (i<j))) x y H Q\/∃i j,x=.str i/\y=.str j/\Q (.bl (decide (i.cps.toList<j.cps.toList))) H
abbrev Jt:R2:=λx y H Q=>jP (λi j=>.bl (decide (i<=j))) x y H Q\/∃i j,x=.str i/\y=.str j/\Q (.bl (!decide (j.cps.toList<i.cps.toList))) H
theorem Ud{X:Cx}:bH X (compareOp .Lt) Ju:=UE.or UG
theorem uu{X:Cx}:bH X (compareOp .LtE) Jt:=UC.or UD
def BW:fY:=λx y A R=>match x,y with
 |.int i,.int j=>R (.bl (decide (i<j))) A
 |.str a,.str b=>R (.bl (decide (a.cps.toList<b.cps.toList))) A
 |_,_=>False
def mz:fY:=λx y A R=>match x,y with
 |.int i,.int j=>R (.bl (decide (i<=j))) A
 |.str a,.str b=>R (.bl (!decide (b.cps.toList<a.cps.toList))) A
 |_,_=>False
theorem N_{mg:ay}:fJ mg Ju BW:=by
 intro x y A ι H u v R Q ra a b h k;unfold BW at h;split at h
 .cases a;cases b;exact .inl ⟨_,_,rfl,rfl,k.here ra h rfl⟩
 .cases a;cases b;exact .inr ⟨_,_,rfl,rfl,k.here ra h rfl⟩
 .exact h.elim
theorem sV{mg:ay}:fJ mg Jt mz:=by
 intro x y A ι H u v R Q ra a b h k;unfold mz at h;split at h
 .cases a;cases b;exact .inl ⟨_,_,rfl,rfl,k.here ra h rfl⟩
 .cases a;cases b;exact .inr ⟨_,_,rfl,rfl,k.here ra h rfl⟩
 .exact h.elim
abbrev GV:fY:=xg λi j=>.bl (decide (j<i))
theorem NY{mg:ay}:fJ mg (jP λi j=>.bl (decide (j<i))) GV:=Fp λ_ _ _ _ _=>rfl
noncomputable def Hv:D->Bool
 |.aD=>true
 |_=>false
def B9:fY:=λx y A R=>match y with
 |.aD=>R (.bl (!Hv x)) A
 |_=>False
theorem RV.Ua{mg:ay}{ι:Io}{n:Nat}{H:Hp}{x:D}{u:V}(r:RV mg ι n H x u):decide (u=.aD)=Hv x:=by
 cases x with
 |aD=>cases r;rfl
 |bl b=>cases r;rfl
 |int b=>cases r;rfl
 |str b=>cases r;rfl
 |tup ds=>obtain⟨a,xs,rfl,_⟩:=r;rfl
 |ref q=>obtain⟨_,rfl⟩:=r;rfl
 |fl ns=>obtain⟨a,o,rfl,_⟩:=r;rfl
 |exc c=>obtain⟨a,C,rfl,_⟩:=r;rfl
theorem Od{mg:ay}:fJ mg (λx y H Q=>y=.aD/\Q (.bl (!decide (x=.aD))) H) B9:=by
 intro x y A ι H u v R Q ra a b h k;unfold B9 at h;split at h
 .cases b
  refine⟨rfl,?_⟩;rw[a.Ua];exact k.here ra h rfl
 .exact h.elim
mutual
def toQ:D->PyData
 |.aD=>.none
 |.bl b=>.bool b
 |.int i=>.int i
 |.str x=>.str x
 |.tup xs=>.tuple (bF xs)
 |.ref _=>.none
 |.fl ns=>.list (ns.map .int)
 |.exc _=>.none
def bF:Bi->Fs
 |[]=>[]
 |d::r=>toQ d::bF r
end
mutual
def fS:D->Bool
 |.tup xs=>gb xs
 |.ref _=>false
 |.exc _=>false
 |_=>true
def gb:Bi->Bool
 |[]=>true
 |d::r=>fS d&&gb r
end
def cW(A:Ar):D->PyData
 |.ref r=>match A[r]? with
  |some (.lst xs)=>.list (bF xs)
  |_=>.none
 |d=>toQ d
noncomputable def ju(A:Ar):D->Bool
 |.ref r=>match A[r]? with
  |some (.lst xs)=>gb xs
  |_=>false
 |d=>fS d
section
variable{mg:ay}{K:Frag}{A:Ar}{ι:Io}{H:Hp}
theorem OI:∀ns:Fn,gW K H (ns.map V.int) (ns.map PyData.int):=gW.ints
mutual
theorem RV.dp{n:Nat}:∀(d:D) (v:V),fS d=true->RV mg ι n H d v->Dp K H v (toQ d)
 |.aD,_,_,h=>by cases h;exact .aD
 |.bl b,_,_,h=>by cases h;exact .bl b
 |.int i,_,_,h=>by cases h;exact .int i
 |.str x,_,_,h=>by cases h;exact .str x
 |.tup ds,v,p,h=>by
  obtain⟨a,xs,rfl,e,r⟩:=h;exact .tup (bV.of e) (aj.dp ds xs (by simpa[fS] using p) r)
 |.ref _,_,p,_=>by simp[fS] at p
 |.fl ns,v,_,h=>by
  obtain⟨a,o,rfl,e⟩:=h;exact .lst (.inl (.inr ⟨o,e⟩)) (OI ns)
 |.exc _,_,p,_=>by simp[fS] at p
theorem aj.dp{n:Nat}:∀(ds:Bi) (vs:Bn),gb ds=true->aj mg ι n H ds vs->gW K H vs (bF ds)
 |[],vs,_,h=>by cases (show vs=[] from h);exact .nil
 |d::ds,vs,p,h=>by
  obtain⟨x,r,rfl,h1,h2⟩:=h;have a:fS d=true/\gb ds=true:=by simpa[gb] using p
  exact .cons (RV.dp d x a.1 h1) (aj.dp ds r a.2 h2)
end
theorem RA.dp(ra:RA mg ι H A){d:D}{v:V}(p:ju A d=true)(h:RV mg ι A.length H d v):Dp K H v (cW A d):=by
 cases d with
 |ref r=>
  obtain⟨_,rfl⟩:=h;unfold ju at p;unfold cW;simp only at p ⊢;split at p
  .rename_i xs e
   obtain⟨a,h1,b⟩:=ra.lst e;exact .lst (bf.of h1) (aj.dp xs a p b)
  .cases p
 |_=>exact RV.dp _ v p h
end
@[irreducible] def f6(neg:Bool)(x y:D)(A:Ar)(R:DK):Prop:=ju A x=true/\ju A y=true/\(cW A x).canLay0=true/\(cW A y).canLay0=true/\min (cW A x).depth (cW A y).depth<=64/\R (.bl (if neg then !PyData.eqv (cW A x) (cW A y) else PyData.eqv (cW A x) (cW A y))) A
def oG:fY:=λx y A R=>match x,y with
 |.int i,.int j=>R (.bl (decide (i=j))) A
 |.str a,.str b=>R (.bl (decide (a=b))) A
 |.bl a,.bl b=>R (.bl (decide (a=b))) A
 |x,y=>f6 false x y A R
def qU:fY:=λx y A R=>match x,y with
 |.int i,.int j=>R (.bl (!decide (i=j))) A
 |.str a,.str b=>R (.bl (!decide (a=b))) A
 |.bl a,.bl b=>R (.bl (!decide (a=b))) A
 |x,y=>f6 true x y A R
theorem Iw{X:Cx}(a:X.A.units+64<cLine):bH X (compareOp .Eq) (λx y H Q=>Co x y H Q\/Cp X.K x y H Q):=Ux.or (Uy a)
theorem Ue{X:Cx}(a:X.A.units+64<cLine):bH X (compareOp .NotEq) (λx y H Q=>Cr x y H Q\/Cu X.K x y H Q):=UJ.or (UK a)
theorem Fj{mg:ay}{K:Frag}:fJ mg (λx y H Q=>Co x y H Q\/Cp K x y H Q) oG:=by
 intro x y A ι H u v R Q ra a b h k;unfold oG at h;split at h
 .cases a;cases b
  rename_i i j;refine .inl ⟨rfl,?_⟩;have e:decide (V.int i=V.int j)=decide (i=j):=θ
  rw[e];exact k.here ra h rfl
 .cases a;cases b
  rename_i i j;refine .inl ⟨rfl,?_⟩;have e:decide (V.str i=V.str j)=decide (i=j):=θ
  rw[e];exact k.here ra h rfl
 .cases a;cases b
  rename_i i j;refine .inl ⟨rfl,?_⟩;have e:decide (V.bl i=V.bl j)=decide (i=j):=θ
  rw[e];exact k.here ra h rfl
 .unfold f6 at h
  obtain⟨c,p2,d,f,hd,q⟩:=h;exact .inr ⟨_,_,ra.dp c a,ra.dp p2 b,d,f,hd,k.here ra q rfl⟩
theorem Ob{mg:ay}{K:Frag}:fJ mg (λx y H Q=>Cr x y H Q\/Cu K x y H Q) qU:=by
 intro x y A ι H u v R Q ra a b h k;unfold qU at h;split at h
 .cases a;cases b
  rename_i i j;refine .inl ⟨rfl,?_⟩;have e:decide (V.int i=V.int j)=decide (i=j):=θ
  rw[e];exact k.here ra h rfl
 .cases a;cases b
  rename_i i j;refine .inl ⟨rfl,?_⟩;have e:decide (V.str i=V.str j)=decide (i=j):=θ
  rw[e];exact k.here ra h rfl
 .cases a;cases b
  rename_i i j;refine .inl ⟨rfl,?_⟩;have e:decide (V.bl i=V.bl j)=decide (i=j):=θ
  rw[e];exact k.here ra h rfl
 .unfold f6 at h
  obtain⟨c,p2,d,f,hd,q⟩:=h;exact .inr ⟨_,_,ra.dp c a,ra.dp p2 b,d,f,hd,k.here ra q rfl⟩
noncomputable def f_:D->Option Key
 |.int i=>some (.inl i)
 |.str x=>some (.inr x)
 |_=>none
noncomputable def bA:List (Key×D)->Key->Option D
 |[],_=>none
 |p::r,k=>if p.1=k then some p.2 else bA r k
@[irreducible] def kB(r:Nat)(y:D)(A:Ar)(R:DK):Prop:=match A[r]? with
 |some (.lst xs)=>(match y with
  |.int i=>(match d9 xs i with
   |some v=>R v A
   |none=>False)
  |_=>False)
 |some (.dct kvs)=>(match f_ y with
  |some k=>(match bA kvs k with
   |some v=>R v A
   |none=>False)
  |none=>False)
 |some (.bI _ kvs)=>(match f_ y with
  |some k=>(match bA kvs k with
   |some v=>R v A
   |none=>False)
  |none=>False)
 |_=>False
def jL:fY:=λx y A R=>match x,y with
 |.tup xs,.int i=>match d9 xs i with
  |some v=>R v A
  |none=>False
 |.str z,.int i=>match d9 z.cps.toList i with
  |some c=>z.length<=sizeLine/\R (.str ⟨#[c]⟩) A
  |none=>False
 |.fl ns,.int i=>match d9 ns i with
  |some c=>R (.int c) A
  |none=>False
 |.ref r,y=>kB r y A R
 |_,_=>False
section
variable{mg:ay}{K:Frag}{A:Ar}{ι:Io}{H:Hp}
theorem aj.d9{n:Nat}{ds:Bi}{vs:Bn}{i:Int}{d:D}(r:aj mg ι n H ds vs)(h:L2.d9 ds i=some d):∃v,L2.d9 vs i=some v/\RV mg ι n H d v:=by
 unfold L2.d9 at h ⊢;rw[<-aj.length r];cases q:jq ds.length i with
 |none=>rw[q] at h;cases h
 |some j=>
  rw[q] at h;exact aj.get r h
theorem MK{α β:Type}(f:α->β)(xs:List α)(i:Int):L2.d9 (xs.map f) i=(L2.d9 xs i).map f:=by
 unfold L2.d9;rw[aM];cases jq xs.length i with
 |none=>rfl
 |some j=>simp
theorem RK.get{n:Nat}:∀{kvs:List (Key×D)} {xs:List (Key×V)} {k:Key},RK mg ι n H kvs xs->(∀d,bA kvs k=some d->∃v,fF xs k=some v/\RV mg ι n H d v)/\(bA kvs k=none->fF xs k=none)
 |[],xs,k,h=>by
  cases (show xs=[] from h);exact⟨λd e=>by simp[bA] at e,λ_=>rfl⟩
 |p::r,xs,k,h=>by
  obtain⟨x,r',rfl,h1,h2⟩:=h;obtain⟨b,c⟩:=RK.get (k:=k) h2;unfold bA;by_cases a:p.1=k
  .rw[aB a]
   have e:fF ((p.1,x)::r') k=some x:=by simp[fF,a]
   rw[e];exact⟨λd z=>by cases z;exact⟨x,rfl,h1⟩,λz=>by cases z⟩
  .rw[av a]
   have e:fF ((p.1,x)::r') k=fF r' k:=by simp[fF,lQ,a]
   rw[e];exact⟨b,c⟩
theorem ny{n:Nat}{y:D}{v:V}{k:Key}(h:f_ y=some k)(r:RV mg ι n H y v):v=kV k:=by
 cases y with
 |int i=>cases h;exact r
 |str x=>cases h;exact r
 |_=>cases h
end
def Jp:R2:=λx y H Q=>∃a v,x=.ref a/\qj H a y (some v)/\Q v H
theorem R5{X:Cx}(i:X.A.units+64<cLine):j7 X Jp:=by
 intro value slice ae s σ H x y v u Q I c d h e;obtain⟨a,z,rfl,g,q⟩:=h;cases c;exact tail_any (OB I g) PySem.F.slot_dict_getitem.lookup (NX ω I g d λj k f b=>⟨z,H,f,b,q⟩) e
abbrev Jo(K:Frag):R2:=λx y H Q=>Jm K x y H Q\/Jp x y H Q
theorem RO{X:Cx}(a:X.A.units+64<cLine):j7 X (Jo X.K):=R7.or (R5 a)
theorem N2{mg:ay}{K:Frag}:fJ mg (Jo K) jL:=by
 intro x y A ι H u v R Q ra i f h k;unfold jL at h;split at h
 .obtain⟨a,xs,rfl,j,b⟩:=i
  cases f;split at h
  .rename_i d e
   obtain⟨z,p,c⟩:=b.d9 e;exact .inl (.inr (.inl ⟨a,xs,_,z,rfl,rfl,bV.of j,p,k.here ra h c⟩))
  .exact h.elim
 .cases i;cases f
  split at h
  .rename_i d e
   exact .inl (.inr (.inr ⟨_,_,_,rfl,rfl,h.1,e,k.here ra h.2 rfl⟩))
  .exact h.elim
 .obtain⟨a,o,rfl,j⟩:=i
  cases f;split at h
  .rename_i d e
   exact .inl (.inl ⟨a,_,_,_,rfl,rfl,.inl (.inr ⟨o,j⟩),by rw[MK,e];rfl,k.here ra h rfl⟩)
  .exact h.elim
 .obtain⟨_,rfl⟩:=i
  unfold kB at h;split at h
  .rename_i xs e
   obtain⟨g,h1,b⟩:=ra.lst e;split at h
   .cases f
    split at h
    .rename_i d e
     obtain⟨z,p,c⟩:=b.d9 e;exact .inl (.inl ⟨_,g,_,z,rfl,rfl,bf.of h1,p,k.here ra h c⟩)
    .exact h.elim
   .exact h.elim
  .rename_i kvs e
   obtain⟨g,h1,b⟩:=ra.dct e;split at h
   .rename_i l m
    cases ny m f;split at h
    .rename_i d n
     obtain⟨z,p,c⟩:=(RK.get b).1 d n;exact .inr ⟨_,z,rfl,.inl ⟨g,l,.inl h1,rfl,p.symm⟩,k.here ra h c⟩
    .exact h.elim
   .exact h.elim
  .rename_i o kvs e
   obtain⟨g,h1,b⟩:=ra.bI e;split at h
   .rename_i l m
    cases ny m f;split at h
    .rename_i d n
     obtain⟨z,p,c⟩:=(RK.get b).1 d n;exact .inr ⟨_,z,rfl,.inl ⟨g,l,.inr ⟨o,h1⟩,rfl,p.symm⟩,k.here ra h c⟩
    .exact h.elim
   .exact h.elim
  .exact h.elim
 .exact h.elim
theorem Om{X:Cx}{N:En}{pos:Pos}{a b:Expr}{ma mb:aT}(c:X.A.units+64<cLine)(d:PE X a (up X.mg N ma))(e:PE X b (up X.mg N mb))(f:zQ b):PE X (.Subscript a b pos) (up X.mg N (bO jL ma mb)):=
 dU (U6 (RO c) d e f) λ_ _ _ h=>yW N2 h
structure lU where
 nx:bL->Ar->Prop
 rt:DK
 bk:bL->Ar->Prop:=λ_ _=>False
 ct:bL->Ar->Prop:=λ_ _=>False
abbrev cT:=lU->bL->Ar->Prop
def kW(mg:ay)(A:Ar)(ι:Io)(H:Hp)(R:bL->Ar->Prop)(Q:St->Hp->Prop):Prop:=∀τ A' ι' σ H',R τ A'->Ext A ι H A' ι' H'->RA mg ι' H' A'->RS mg ι' A'.length H' τ σ->Q σ H'
structure vH(mg:ay)(A:Ar)(ι:Io)(H:Hp)(R:lU)(Q:Ends):Prop where
 nx:kW mg A ι H R.nx Q.nx
 rt:Kt mg A ι H R.rt Q.rt
 bk:kW mg A ι H R.bk Q.bk
 ct:kW mg A ι H R.ct Q.ct
def cK(mg:ay)(N:En)(m:cT):TS:=λQ σ H=>∃A ι τ R,eN mg N A ι τ σ H/\m R τ A/\vH mg A ι H R Q
section
variable{mg:ay}{N:En}{A A':Ar}{ι ι':Io}{τ bT:bL}{σ σ':St}{H H':Hp}
theorem kW.from{R:bL->Ar->Prop}{Q:St->Hp->Prop}(k:kW mg A ι H R Q)(e:Ext A ι H A' ι' H'):kW mg A' ι' H' R Q:=λτ b a σ H2 q c=>k τ b a σ H2 q (e.trans c)
theorem vH.from{R:lU}{Q:Ends}(k:vH mg A ι H R Q)(e:Ext A ι H A' ι' H'):vH mg A' ι' H' R Q:=⟨k.nx.from e,k.rt.from e,k.bk.from e,k.ct.from e⟩
theorem kW.here{R:bL->Ar->Prop}{Q:St->Hp->Prop}(k:kW mg A ι H R Q)(S:eN mg N A ι τ σ H)(q:R τ A):Q σ H:=k τ A ι σ H q S.ra.refl S.ra S.rs
theorem eN.to(S:eN mg N A ι τ σ H)(e:Ext A ι H A' ι' H')(r:RA mg ι' H' A')(s:RS mg ι' A'.length H' bT σ'):eN mg N A' ι' bT σ' H':=⟨r,s,S.ex.trans e⟩
theorem BU:∀(τ:bL) (i:Nat) (d:D),i<τ.length->lk (τ.set i (some d)) i=some d
 |[],i,d,h=>by simp at h
 |x::r,0,d,_=>rfl
 |x::r,i+1,d,h=>BU r i d (by simpa using h)
theorem BS:∀(τ:bL) (i j:Nat) (d:Option D),j≠i->lk (τ.set i d) j=lk τ j
 |[],i,j,d,_=>rfl
 |x::r,0,0,d,h=>absurd rfl h
 |x::r,0,j+1,d,_=>rfl
 |x::r,i+1,0,d,_=>rfl
 |x::r,i+1,j+1,d,h=>BS r i j d ω
theorem RS.set{n:Nat}{i:Nat}{d:D}{v:V}(r:RS mg ι n H τ σ)(h:RV mg ι n H d v):RS mg ι n H (τ.set i (some d)) (σ.set i (some v)):=⟨by simp[r.len],λj e q=>by
 by_cases a:j=i
 .subst a
  by_cases hl:j<τ.length
  .rw[BU _ _ _ hl] at q
   cases q;refine⟨v,?_,h⟩;rw[eG (by rw[<-r.len];exact hl)]
  .rw[List.set_eq_of_length_le ω] at q
   rw[qT,nX ω] at q;cases q
 .rw[BS _ _ _ _ a] at q
  obtain⟨w,h1,h2⟩:=r.at' j e q;exact⟨w,by rw[eF (Ne.symm a)];exact h1,h2⟩⟩
theorem eN.set{i:Nat}{d:D}{v:V}(S:eN mg N A ι τ σ H)(h:RV mg ι A.length H d v):eN mg N A ι (τ.set i (some d)) (σ.set i (some v)) H:=⟨S.ra,S.rs.set h,S.ex⟩
end
def uQ:cT:=λR τ A=>R.nx τ A
def gI(t u:cT):cT:=λR τ A=>t {R with nx:=u R} τ A
def CA(m:aT):cT:=λR τ A=>m τ A λ_ A1=>R.nx τ A1
def yH(m:aT):cT:=λR τ A=>m τ A R.rt
def rm(c:fH)(t u:cT):cT:=λR τ A=>c τ A λb A1=>cond b (t R τ A1) (u R τ A1)
section
variable{pos:Pos}{st:Stmt}{rest:FK}{t u:cT}{e:Expr}{m:aT}
theorem cJ:dF X [] (cK X.mg N uQ):=FY VT λQ σ H q=>by
 obtain⟨A,ι,τ,R,S,q,k⟩:=q;exact k.nx.here S q
theorem aF(h1:PS X st (cK X.mg N t))(h2:dF X rest (cK X.mg N u)):dF X (st::rest) (cK X.mg N (gI t u)):=FY (VS h1 h2) λQ σ H q=>by
 obtain⟨A,ι,τ,R,S,q,k⟩:=q;exact⟨A,ι,τ,_,S,q,⟨λa d b e H1 f c g h=>⟨d,b,a,R,S.to c g h,f,k.from c⟩,k.rt,k.bk,k.ct⟩⟩
theorem aG(h1:PS X st (cK X.mg N t)):dF X [st] (cK X.mg N t):=VU h1
theorem f7(b:PE X e (up X.mg N m))(c:swapsWith e none pos.line X.env=pure false:=by rfl):PS X (.Expr e pos) (cK X.mg N (CA m)):=i8 (VI b c) λQ σ H q=>by
 obtain⟨A,ι,τ,R,S,q,k⟩:=q;exact⟨A,ι,τ,_,S,q,λv h d H1 u f a g i=>(k.nx.from a).here (S.next a g) f⟩
theorem a_(a:PE X e (up X.mg N m)):PS X (.Return (some e) pos) (cK X.mg N (yH m)):=i8 (VO a) λQ σ H q=>by
 obtain⟨A,ι,τ,R,S,q,k⟩:=q;exact⟨A,ι,τ,_,S,q,k.rt⟩
theorem cG{c:Expr}{a b:FK}{tc:fH}(hc:PT X c (dJ X.mg N tc))(i:dF X a (cK X.mg N t))(j:dF X b (cK X.mg N u)):PS X (.If c a b pos) (cK X.mg N (rm tc t u)):=i8 (VL hc i j) λQ σ H q=>by
 obtain⟨A,ι,τ,R,S,q,k⟩:=q;refine⟨A,ι,τ,_,S,q,λx f d H1 g e h=>?_⟩;cases x with
 |true=>rw[aB rfl];exact⟨f,d,τ,R,S.next e h,g,k.from e⟩
 |false=>rw[av cC];exact⟨f,d,τ,R,S.next e h,g,k.from e⟩
end
abbrev kR:=D->bL->Ar->(bL->Ar->Prop)->Prop
abbrev qk:=Bi->bL->Ar->(bL->Ar->Prop)->Prop
def pP(mg:ay)(N:En)(g:kR):TG:=λv σ H Q=>∃A ι τ d R,eN mg N A ι τ σ H/\RV mg ι A.length H d v/\g d τ A R/\kW mg A ι H R Q
def yT(mg:ay)(N:En)(g:qk):kY:=λvs σ H Q=>∃A ι τ ds R,eN mg N A ι τ σ H/\aj mg ι A.length H ds vs/\g ds τ A R/\kW mg A ι H R Q
def gN(i:Nat):kR:=λd τ A R=>R (τ.set i (some d)) A
def oK:qk:=λds τ A R=>match ds with
 |[]=>R τ A
 |_=>False
def ku(g:kR)(h:qk):qk:=λds τ A R=>match ds with
 |d::r=>g d τ A λDA A1=>h r DA A1 R
 |[]=>False
def gT(n:Nat)(g:qk):kR:=λd τ A R=>match d with
 |.tup ds=>ds.length=n/\g ds τ A R
 |_=>False
def JG(m:aT)(g:kR):cT:=λR τ A=>m τ A λv A1=>g v τ A1 R.nx
section
variable{pos:Pos}{e tg:Expr}{es:DD}{m:aT}{g:kR}{gs:qk}
theorem FL{t a:TG}(h:PG X tg t)(w:∀v σ H Q,a v σ H Q->t v σ H Q):PG X tg a:=λae s σ H v u Q I r q=>h ae s σ H v u Q I r (w v σ H Q q)
theorem FN{t a:kY}(h:kX X es t)(w:∀v σ H Q,a v σ H Q->t v σ H Q):kX X es a:=λae s σ H v u Q I r q=>h ae s σ H v u Q I r (w v σ H Q q)
theorem Oz{i:Nat}{x:Str}(a:X.N.Nodup)(hi:X.N[i]?=some x)(b:Loc X.env.scope x)(c:autoParam (X.fn x=true\/X.env.scope.names.lookup x=some .local) Zw):PG X (.Name x pos) (pP X.mg N (gN i)):=
 FL (IQ a hi b c) λv σ H Q q=>by
  obtain⟨A,ι,τ,d,R,S,r,q,k⟩:=q;exact k.here (S.set r) q
theorem k9:kX X [] (yT X.mg N oK):=FN pH λv σ H Q q=>by
 obtain⟨A,ι,τ,ds,R,S,r,q,k⟩:=q;unfold oK at q;split at q
 .exact⟨r,k.here S q⟩
 .exact q.elim
theorem fK(h1:PG X e (pP X.mg N g))(h2:kX X es (yT X.mg N gs))(f:(assignEach (e::es) X.env).map (·.2)=assign e X.env::(assignEach es X.env).map (·.2):=by rfl):kX X (e::es) (yT X.mg N (ku g gs)):=
 FN (iP h1 h2 f) λv σ H Q q=>by
  obtain⟨A,ι,τ,ds,R,S,r,q,k⟩:=q;cases ds with
  |nil=>exact q.elim
  |cons d ds=>
   obtain⟨x,xs,rfl,h,i⟩:=r;refine⟨x,xs,rfl,A,ι,τ,d,_,S,h,q,λa j b l H1 m c o n=>?_⟩;exact⟨j,b,a,ds,R,S.to c o n,aj.ext c ds xs i,m,k.from c⟩
theorem k8{k n:Nat}(hc:X.calm=true)(h:kX X es (yT X.mg N gs))(c:(assignEach es X.env).length=n:=by rfl)(b:(assignEach es X.env).findIdx? (·.1)=none:=by rfl):PG X (.Tuple es k pos) (pP X.mg N (gT n gs)):=
 FL (pF hc h c b) λv σ H Q q=>by
  obtain⟨A,ι,τ,d,R,S,r,q,k⟩:=q;cases d with
  |tup ds=>
   obtain⟨a,xs,rfl,h1,h2⟩:=r;exact⟨a,xs,rfl,bV.of h1,by rw[<-aj.length h2];exact q.1,A,ι,τ,ds,R,S,h2,q.2,k⟩
  |_=>exact q.elim
theorem YI{te:TE}{σ:St}{H:Hp}{Q:Ends}(c:∀σ H Q,up X.mg N m σ H Q->te σ H Q)(q:cK X.mg N (JG m g) Q σ H):yN te (pP X.mg N g) Q σ H:=by
 obtain⟨A,ι,τ,R,S,q,k⟩:=q;exact c _ _ _ ⟨A,ι,τ,_,S,q,λv d a H1 u e b f h=>⟨d,a,τ,v,_,S.next b f,h,e,k.nx.from b⟩⟩
theorem OJ(a:PE X e (up X.mg N m))(b:PG X tg (pP X.mg N g))(c:swapsWithSole [tg] e pos.line X.env=pure false:=by rfl)(d:swappedStores [tg] e X.env=pure none:=by rfl)
 (h1:(assignEach [tg] X.env).map (·.2)=[assign tg X.env]:=by rfl):PS X (.Assign [tg] e pos) (cK X.mg N (JG m g)):=i8 (IX a b c d h1) λ_ _ _ q=>YI (λ_ _ _ h=>h) q
def jQ(i:Nat)(m:aT):cT:=λR τ A=>m τ A λv A1=>R.nx (τ.set i (some v)) A1
theorem OO{i:Nat}{x:Str}{pos':Pos}(b:X.N.Nodup)(hi:X.N[i]?=some x)(c:Loc X.env.scope x)(d:PE X e (up X.mg N m))(f:swapsWith e (some (.Name x pos')) pos.line X.env=pure false:=by rfl)(g:autoParam (X.fn x=true\/X.env.scope.names.lookup x=some .local) Zw):
  PS X (.Assign [.Name x pos'] e pos) (cK X.mg N (jQ i m)):=i8 (VP b hi c d f g) λQ σ H q=>by
 obtain⟨A,ι,τ,R,S,q,k⟩:=q;exact⟨A,ι,τ,_,S,q,λv o h H1 u j a l n=>(k.nx.from a).here ((S.next a l).set n) j⟩
def Wu(i j:Nat)(n:dD):cT:=λR τ A=>n τ A λvs A1=>match vs with
 |[v,w]=>R.nx ((τ.set i (some v)).set j (some w)) A1
 |_=>False
theorem FW{i j:Nat}{x y:Str}{a b:Expr}{n:dD}{px py pt:Pos}{kt F d}(hc:X.calm=true)(h:X.N.Nodup)(hi:X.N[i]? =some x)(l:X.N[j]? =some y)(e:i≠j)
  (m:X.env.scope.names.lookup x=some .local)(o:X.env.scope.names.lookup y=some .local)(p:PA X [a,b] (fU X.mg N n))
  (r:swappedStores [.Tuple [.Name x px,.Name y py] kt pt] (.Tuple [a,b] F d) X.env=pure (some [x,y]))
  (s:swapsWithSole [.Tuple [.Name x px,.Name y py] kt pt] (.Tuple [a,b] F d) pos.line X.env=pure false:=by rfl):
  PS X (.Assign [.Tuple [.Name x px,.Name y py] kt pt] (.Tuple [a,b] F d) pos) (cK X.mg N (Wu i j n)):=i8 (VM hc h hi l e m o p r s) λQ σ H q=>by
 obtain⟨A,ι,τ,R,S,q,k⟩:=q
 refine⟨A,ι,τ,_,S,q,λvs D t H1 E c g u f=> ?_⟩
 match vs,c,f with
 |[v,w],c,f=>
  obtain⟨z,_,rfl,h1,B,_,rfl,h2,C⟩:=f
  obtain rfl:=C
  exact⟨z,B,rfl,(k.nx.from g).here (((S.next g u).set h1).set h2) c⟩
 |[],c,_=>exact c.elim
 |[_],c,_=>exact c.elim
 |_::_::_::_,c,_=>exact c.elim
end
abbrev DX:=Str->Ar->Prop
abbrev Ct:=Bi->Ar->DK->DX->Prop
def Mw(mg:ay)(A:Ar)(ι:Io)(H:Hp)(R:DX)(E:XK):Prop:=∀c A' ι' H' C,R c A'->mg c=some (.ref C)->Ext A ι H A' ι' H'->RA mg ι' H' A'->E (.ref C) none H'
def aA(mg:ay)(n:Nat)(S:Ct):Sp:=λvs H Q E=>∃A ι ds R RE,ds.length=n/\RA mg ι H A/\aj mg ι A.length H ds vs/\S ds A R RE/\Kt mg A ι H R Q/\Mw mg A ι H RE E
def EL(mg:ay)(N:En)(R:DX):XK:=λC _ H'=>∃c A' ι',(∃a,C=.ref a/\mg c=some (.ref a))/\Ext N.A N.ι N.H A' ι' H'/\RA mg ι' H' A'/\R c A'
def iK(n:Nat)(S:Ct)(RE:DX)(m:dD):aT:=λτ A R=>m τ A λvs A1=>vs.length=n/\S vs A1 R RE
section
variable{k n:Nat}{x:Str}{ps:Ap}{S:Ct}{RE:DX}{e:Expr}{es:DD}{m:dD}{p pos:Pos}
theorem Oh(F:aC X.prog X.w X.K X.mg X.base k x ps (aA X.mg n S))(i:eL k X.A)(j:Passes (bU X.prog X.w) X (EL X.mg N RE))(l:PA X (e::es) (fU X.mg N m))(o:Gl X x:=by rfl)(a:(x==("__debug__":Str))=false:=by decide)
  (r:starEach (e::es) X.env=(false,eval e X.env)::starEach es X.env:=by rfl)(b:(backTo pos (starEach es X.env)).any (·.1)=false:=by rfl):
  PE X (.Call (.Name x p) (e::es) [] pos) (up X.mg N (iK n S RE m)):=dU (UZ F i j l o a r b) λσ H Q q=>by
 obtain⟨A,ι,τ,R,Z,q,k⟩:=q;refine⟨A,ι,τ,_,Z,q,λvs s d H1 t g h u v=>?_⟩;show aA X.mg n S (t++[]) H1 Q (EL X.mg N RE);rw[lN];exact⟨s,d,vs,R,RE,g.1,u,v,g.2,k.from h,λc y f H2 C z hc B D=>⟨c,y,f,⟨C,rfl,hc⟩,(Z.ex.trans h).trans B,D,z⟩⟩
end
def kI(n:Nat)(ds:Bi):bL:=ds.map some++replicate n none
theorem xx:∀(ds:Bi) (n i:Nat) (d:D),lk (kI n ds) i=some d->ds[i]?=some d
 |[],n,i,d,h=>by
  rw[qT] at h;simp[kI,zx] at h;split at h<;>simp at h
 |x::r,n,0,d,h=>by simpa[kI,lk] using h
 |x::r,n,i+1,d,h=>by simpa using xx r n i d h
theorem TopD.lu{P:Program}{w:World}{K:Frag}{mg:ay}{base:Heap}{x:Str}{st:Stmt}{Nm ps:Ap}{k n:Nat}{S:Ct}(T:TopD K mg x st ps)(Sc:bB Nm ps (aO st))(B:ps.length=n)(V:ps.length<=Nm.length)
  (g:∀(N:En) (RE:DX) (X:Cx),X.prog=P->X.w=w->X.K=K->X.mg=mg->X.base=base->X.N=Nm->X.calm=true->X.ex=[]->(∃f j A outer s H E,X=cU (bU P w) P w K mg base Nm x (aO st) f j A outer s H E)->eL k X.A->Raises X (EL X.mg N RE)->Passes (bU X.prog X.w) X (EL X.mg N RE)->
   ∀ds A R,S ds A R RE->ds.length=n->∃m,dF X (ir st) (cK X.mg N m)/\m {nx:=λ_ A'=>R .aD A',rt:=R} (kI (Nm.length - n) ds) A):aC P w K mg base (k+1) x ps (aA mg n S):=by
 refine T.fnX Sc (λvs H Q E h=> ?_) λf j A outer s H vs Q E D h=> ?_
 .obtain⟨A,ι,ds,R,RE,hl,_,o,_⟩:=h
  rw[<-aj.length o,hl,B]
 .obtain⟨p,l,ds,R,RE,hl,ra,o,F,u,G⟩:=h
  have y:∀C a H',EL mg ⟨p,l,H⟩ RE C a H'->E C none H':=λC a H' z=>by
   obtain⟨c,A',ι',⟨b,rfl,hc⟩,ex,r,q⟩:=z
   exact G c A' ι' H' b q hc ex r
  obtain⟨m,J,L⟩:=g ⟨p,l,H⟩ RE (cU (bU P w) P w K mg base Nm x (aO st) f j A outer s H E) rfl rfl rfl rfl rfl rfl rfl rfl ⟨_,_,_,_,_,_,_,rfl⟩ D
   (λae σ H1 t e h' C args I M z=>Jx ae σ H1 t e h' C args I M (y _ _ _ z))
   (λae σ H1 t e s' I z=>IJ ae σ H1 t e s' I (by
    obtain⟨a,C,H',h1,h2,O⟩:=z
    exact⟨a,C,H',h1,h2,y _ _ _ O⟩)) ds p R F hl
  have U:=aj.length o
  refine⟨_,J,p,l,_,_,⟨ra,⟨?_,λi d q=> ?_⟩,ra.refl⟩,L,⟨λτ A' ι' σ H' q e r _=>u _ A' ι' H' _ q e r rfl,u,λ_ _ _ _ _ q _ _ _=>q.elim,λ_ _ _ _ _ q _ _ _=>q.elim⟩⟩
  .simp[kI,L2.start]
   omega
  .obtain⟨v,h1,h2⟩:=aj.get o (xx ds _ i d q)
   refine⟨v,?_,h2⟩
   have hi:=(bK.mp h1).1
   unfold L2.start
   rw[iG (by simpa using hi),bz,h1]
   rfl
abbrev iW:=Bi->Ar->DK->Prop
def jl(mg:ay)(r:Bn->Hp->VK->Prop)(f:iW):Prop:=∀ds A ι H us R Q,RA mg ι H A->aj mg ι A.length H ds us->f ds A R->Kt mg A ι H R Q->r us H Q
def l_(f:iW)(m:dD):aT:=λτ A R=>m τ A λvs A1=>f vs A1 R
section
variable{e:Expr}{es:DD}{m:dD}{p pos:Pos}{f:iW}{r:Bn->Hp->VK->Prop}{x:Str}{id T:String}
theorem Lw(h:jl X.mg r f){σ:St}{H:Hp}{Q:VK}(q:up X.mg N (l_ f m) σ H Q):CQ r (fU X.mg N m) σ H Q:=by
 obtain⟨A,ι,τ,R,S,q,k⟩:=q;exact⟨A,ι,τ,_,S,q,λvs b a H1 c d e g i=>h vs b a H1 c R Q g i d (k.from e)⟩
theorem eW(hc:fy X (.builtin id) r)(hd:jl X.mg r f)(c:X.mg x=none)(d:bootBuiltins x=some (.builtin id))(g:PA X (e::es) (fU X.mg N m))(i:Gl X x:=by rfl)(j:x≠"__name__":=by decide)(a:(x==("__debug__":Str))=false:=by decide)
 (k:starEach (e::es) X.env=(false,eval e X.env)::starEach es X.env:=by rfl)(b:(backTo pos (starEach es X.env)).any (·.1)=false:=by rfl):PE X (.Call (.Name x p) (e::es) [] pos) (up X.mg N (l_ f m)):=dU (yw hc i c d g j a k b) λ_ _ _ h=>Lw hd h
theorem i7(hc:fy X (.type T) r)(hd:jl X.mg r f)(c:X.mg x=none)(d:bootBuiltins x=some (.type T))(g:PA X (e::es) (fU X.mg N m))(i:Gl X x:=by rfl)(j:x≠"__name__":=by decide)(a:(x==("__debug__":Str))=false:=by decide)
 (k:starEach (e::es) X.env=(false,eval e X.env)::starEach es X.env:=by rfl)(b:(backTo pos (starEach es X.env)).any (·.1)=false:=by rfl):PE X (.Call (.Name x p) (e::es) [] pos) (up X.mg N (l_ f m)):=dU (UY hc i c d g j a k b) λ_ _ _ h=>Lw hd h
end
@[irreducible] def xw(r:Nat)(A:Ar)(R:DK):Prop:=match A[r]? with
 |some (.lst xs)=>R (.int xs.length) A
 |some (.dct kvs)=>R (.int kvs.length) A
 |_=>False
def BL:iW:=λvs A R=>match vs with
 |[.tup xs]=>R (.int xs.length) A
 |[.str z]=>z.length<=sizeLine/\R (.int z.length) A
 |[.fl ns]=>R (.int ns.length) A
 |[.ref r]=>xw r A R
 |_=>False
theorem RK.length{mg:ay}{ι:Io}{H:Hp}:∀{ds:List (Key×D)} {vs:List (Key×V)} {n:Nat},RK mg ι n H ds vs->ds.length=vs.length
 |[],vs,_,h=>by have h':vs=[]:=h;rw[h'];rfl
 |d::ds,vs,n,h=>by
  obtain⟨x,r,rfl,_,a⟩:=h;simp[RK.length a]
theorem ia{X:Cx}:fy X (.builtin "len") (λxs H Q=>(∃p ys,xs=[.ref p]/\(bf X.K H p ys\/bV X.K H p ys)/\Q (.int ys.length) H)\/(∃z,xs=[.str z]/\z.length<=sizeLine/\Q (.int z.length) H)\/∃a kvs,xs=[V.ref a]/\H a=some (.dK kvs)/\Q (.int kvs.length) H):=M3.or (M4.or M1)
theorem a3{mg:ay}{K:Frag}:jl mg (λxs H Q=>(∃p ys,xs=[.ref p]/\(bf K H p ys\/bV K H p ys)/\Q (.int ys.length) H)\/(∃z,xs=[.str z]/\z.length<=sizeLine/\Q (.int z.length) H)\/∃a kvs,xs=[V.ref a]/\H a=some (.dK kvs)/\Q (.int kvs.length) H) BL:=by
 intro ds A ι H c R Q ra rs h k;unfold BL at h;split at h
 .obtain⟨_,_,rfl,⟨a,xs,rfl,d,b⟩,rfl⟩:=rs
  exact .inl ⟨a,xs,rfl,.inr (bV.of d),k.here ra h (by rw[aj.length b];rfl)⟩
 .obtain⟨_,_,rfl,rfl,rfl⟩:=rs
  exact .inr (.inl ⟨_,rfl,h.1,k.here ra h.2 rfl⟩)
 .obtain⟨_,_,rfl,⟨a,o,rfl,d⟩,rfl⟩:=rs
  exact .inl ⟨a,_,rfl,.inl (.inl (.inr ⟨o,d⟩)),k.here ra h (by rw[aM];rfl)⟩
 .obtain⟨_,_,rfl,⟨_,rfl⟩,rfl⟩:=rs
  unfold xw at h;split at h
  .rename_i xs e
   obtain⟨c,h1,b⟩:=ra.lst e;exact .inl ⟨_,c,rfl,.inl (bf.of h1),k.here ra h (by rw[aj.length b];rfl)⟩
  .rename_i xs e
   obtain⟨c,h1,b⟩:=ra.dct e;exact .inr (.inr ⟨_,c,rfl,h1,k.here ra h (by rw[RK.length b];rfl)⟩)
  .exact h.elim
 .exact h.elim
@[irreducible] def xC(r:Nat)(A:Ar)(R:DK):Prop:=match A[r]? with
 |some (.lst xs)=>R (.ref A.length) (A++[.lst xs])
 |_=>False
def HY:iW:=λvs A R=>match vs with
 |[.tup xs]=>R (.ref A.length) (A++[.lst xs])
 |[.fl ns]=>R (.ref A.length) (A++[.lst (ns.map .int)])
 |[.ref r]=>xC r A R
 |_=>False
theorem N4{mg:ay}{K:Frag}:jl mg (λxs H Q=>∃p ys,xs=[.ref p]/\(bf K H p ys\/bV K H p ys)/\∀l,H l=none->Q (.ref l) (ax H l (.lst ys))) HY:=by
 intro ds A ι H f R Q ra rs h k;unfold HY at h;split at h
 .obtain⟨_,_,rfl,⟨a,xs,rfl,c,d⟩,rfl⟩:=rs
  exact⟨a,xs,rfl,.inr (bV.of c),λp b=>kF k ra d h b⟩
 .obtain⟨_,_,rfl,⟨a,o,rfl,c⟩,rfl⟩:=rs
  exact⟨a,_,rfl,.inl (.inl (.inr ⟨o,c⟩)),λp b=>kF k ra (aj.ints _) h b⟩
 .obtain⟨_,_,rfl,⟨_,rfl⟩,rfl⟩:=rs
  unfold xC at h;split at h
  .rename_i xs e
   obtain⟨f,h1,d⟩:=ra.lst e;exact⟨_,f,rfl,.inl (bf.of h1),λp b=>kF k ra d h b⟩
  .exact h.elim
 .exact h.elim
@[irreducible] def yS(r:Nat)(A:Ar)(R:DK):Prop:=match A[r]? with
 |some (.lst xs)=>R (.tup xs) A
 |_=>False
def yR:iW:=λvs A R=>match vs with
 |[.tup xs]=>R (.tup xs) A
 |[.ref r]=>yS r A R
 |_=>False
theorem sW{mg:ay}{K:Frag}:jl mg (λxs H Q=>∃p ys,xs=[.ref p]/\((bf K H p ys/\∀l,H l=none->Q (.ref l) (ax H l (.tup ys)))\/(bV K H p ys/\Q (.ref p) H))) yR:=by
 intro ds A ι H c R Q ra rs h k;unfold yR at h;split at h
 .obtain⟨_,_,rfl,⟨a,xs,rfl,d,b⟩,rfl⟩:=rs
  exact⟨a,xs,rfl,.inr ⟨bV.of d,k.here ra h ⟨a,xs,rfl,d,b⟩⟩⟩
 .obtain⟨_,_,rfl,⟨_,rfl⟩,rfl⟩:=rs
  unfold yS at h;split at h
  .rename_i xs e
   obtain⟨c,h1,b⟩:=ra.lst e;exact⟨_,c,rfl,.inl ⟨bf.of h1,λp f=>B5 k ra b h f⟩⟩
  .exact h.elim
 .exact h.elim
noncomputable def h_:Bi->Option FC
 |[]=>some []
 |.bl b::r=>(h_ r).map (b::·)
 |_::_=>none
theorem sM{mg:ay}{ι:Io}{n:Nat}{H:Hp}:∀{ds:Bi} {a:Bn} {bs:FC},h_ ds=some bs->aj mg ι n H ds a->a=bs.map V.bl
 |[],a,bs,h,r=>by cases h;exact r
 |d::ds,a,bs,h,r=>by
  obtain⟨x,r',rfl,h1,h2⟩:=r;cases d with
  |bl b=>
   cases q:h_ ds with
   |none=>simp[h_,q] at h
   |some l=>
    simp[h_,q] at h;subst h;rw[sM q h2];cases h1;rfl
  |_=>simp[h_] at h
@[irreducible] def allR(r:Nat)(A:Ar)(R:DK):Prop:=match A[r]? with
 |some (.lst xs)=>(match h_ xs with
  |some bs=>R (.bl (bs.all id)) A
  |none=>False)
 |_=>False
def z_:iW:=λvs A R=>match vs with
 |[.ref r]=>allR r A R
 |_=>False
theorem v9{mg:ay}{K:Frag}:jl mg (λxs H Q=>∃(p:Addr) (bs:FC),xs=[.ref p]/\bf K H p (bs.map V.bl)/\Q (.bl (bs.all id)) H) z_:=by
 intro ds A ι H a R Q ra rs h k;unfold z_ at h;split at h
 .obtain⟨_,_,rfl,⟨_,rfl⟩,rfl⟩:=rs
  unfold allR at h;split at h
  .rename_i xs e
   split at h
   .rename_i bs b
    obtain⟨a,h1,c⟩:=ra.lst e;exact⟨_,bs,rfl,bf.of (by rw[h1,sM b c]),k.here ra h rfl⟩
   .exact h.elim
  .exact h.elim
 .exact h.elim
noncomputable def lI(A:Ar):D->Option String
 |.aD=>some "NoneType"
 |.bl _=>some "bool"
 |.int _=>some "int"
 |.str _=>some "str"
 |.tup _=>some "tuple"
 |.fl _=>some "list"
 |.exc _=>none
 |.ref r=>match A[r]? with
  |some (.lst _)=>some "list"
  |some (.dct _)=>some "dict"
  |_=>none
noncomputable def nj(t c:String):Bool:=t==c||(t=="bool"&&c=="int")
def NF(c:String)(m:aT):aT:=λτ A R=>m τ A λx A1=>match lI A1 x with
 |some t=>R (.bl (nj t c)) A1
 |none=>False
noncomputable def tys:List String:=["NoneType","bool","int","str","tuple","list","dict"]
theorem YC{A:Ar}{d:D}{t:String}(h:lI A d=some t):t∈tys:=by
 cases d with
 |ref r=>
  unfold lI at h;simp only at h;split at h<;>first|(cases h;decide)|cases h
 |exc c=>cases h
 |_=>cases h;decide
theorem RA.ty{mg:ay}{K:Frag}{A:Ar}{ι:Io}{H:Hp}(ra:RA mg ι H A){d:D}{v:V}{t:String}(h:lI A d=some t)(r:RV mg ι A.length H d v):sE K H v (.type t):=by
 cases d with
 |aD=>cases h;cases r;exact .of .aD
 |bl b=>cases h;cases r;exact .of (.bl b)
 |int b=>cases h;cases r;exact .of (.int b)
 |str b=>cases h;cases r;exact .of (.str b)
 |tup ds=>cases h;obtain⟨a,xs,rfl,e,_⟩:=r;exact .of (.tup e)
 |fl ns=>cases h;obtain⟨a,o,rfl,e⟩:=r;exact .of (.bW e)
 |exc c=>cases h
 |ref q=>
  obtain⟨_,rfl⟩:=r;unfold lI at h;simp only at h;split at h
  .rename_i xs e
   cases h;obtain⟨f,h1,_⟩:=ra.lst e;exact .of (.lst h1)
  .rename_i xs e
   cases h;obtain⟨f,h1,_⟩:=ra.dct e;exact .of (.dK h1)
  .cases h
section
variable{e:Expr}{es:DD}{m:aT}{p p2 pos:Pos}{x:Str}{c:String}
theorem kj(n:∀t∈tys,kitOne X.K (.type t) (.type c)=some (nj t c))(o:X.mg "isinstance"=none)(b:X.mg x=none)(d:bootBuiltins x=some (.type c))(r:PE X e (up X.mg N m))(s:Gl X "isinstance":=by rfl)(f:Gl X x:=by rfl)(w:x≠"__name__":=by decide)(g:(x==("__debug__":Str))=false:=by decide)
  (h:starEach [e,.Name x p2] X.env=[(false,eval e X.env),(false,eval (.Name x p2) X.env)]:=by rfl):
  PE X (.Call (.Name "isinstance" p) [e,.Name x p2] [] pos) (up X.mg N (NF c m)):=by
 have y:PE X (.Name x p2) (tC (.ty c)):=IK f b d rfl w g;refine dU (yw M0 s o boot_isinstance (pC r (pC y yu rfl) (by rw[h];rfl)) δ δ (by rw[h];rfl) rfl) λσ H Q q=>?_;obtain⟨A,ι,τ,R,S,q,k⟩:=q;refine⟨A,ι,τ,_,S,q,λv i z H1 u a B j C=>?_⟩;have a:(match lI i v with|some t=>R (.bl (nj t c)) i|none=>False):=a;split at a
 .rename_i t l
  exact⟨u,c,.type t,nj t c,rfl,j.ty l C,n t (YC l),(k.from B).here j a rfl⟩
 .exact a.elim
end
abbrev iX:=D->Bi->Ar->DK->Prop
def j9(mg:ay)(K:Frag)(T:String)(r:V->Bn->Hp->VK->Prop)(f:iX):Prop:=∀x ds A ι H u us R Q,RA mg ι H A->RV mg ι A.length H x u->aj mg ι A.length H ds us->f x ds A R->Kt mg A ι H R Q->r u us H Q
noncomputable def oR(A:Ar):D->Bool
 |.ref r=>match A[r]? with
  |some (.lst _)=>true
  |_=>false
 |_=>false
def Fg(f:iX)(mo:aT)(m:dD):aT:=λτ A R=>mo τ A λx A1=>oR A1 x=true/\m τ A1 λvs A2=>f x vs A2 R
theorem RA.oR{mg:ay}{K:Frag}{A:Ar}{ι:Io}{H:Hp}(ra:RA mg ι H A){d:D}{v:V}(h:oR A d=true)(r:RV mg ι A.length H d v):C4 K "list" v H:=by
 cases d with
 |ref q=>
  obtain⟨_,rfl⟩:=r;unfold L2.oR at h;simp only at h;split at h
  .rename_i xs e
   obtain⟨a,h1,_⟩:=ra.lst e;exact .inl ⟨rfl,a,bf.of h1⟩
  .cases h
 |_=>cases h
section
variable{e o:Expr}{es:DD}{mo:aT}{m:dD}{apos cpos:Pos}{f:iX}{r:V->Bn->Hp->VK->Prop}{name:Str}{id:String}
theorem ig(t:PlainAttrs "list")(slot:Slot "list" name id)(g:typeOf (.builtin id)=pure (.type "method_descriptor"))(v:zN X id r)(hd:j9 X.mg X.K "list" r f)(w:PE X o (up X.mg N mo))(y:PA X (e::es) (fU X.mg N m))
  (b:attributeBase o name X.env (eval o X.env)=eval o X.env:=by rfl)
  (d:((backTo cpos (starEach (e::es) X.env)).all (λx=> !x.1)&&(backToKw cpos (keywordEach [] X.env)).all (λx=>x.1.isSome)
   &&decide ((e::es).length+([]:FR).length+(if ([]:FR).isEmpty then 0 else 1)<30))=true:=by rfl)
  (c:(apos.endLine==cpos.line)=true:=by rfl)(z:starEach (e::es) X.env=(false,eval e X.env)::starEach es X.env:=by rfl)(a:(backTo cpos (starEach es X.env)).any (·.1)=false:=by rfl):
  PE X (.Call (.Attribute o name apos) (e::es) [] cpos) (up X.mg N (Fg f mo m)):=dU (IL t slot g v w y b d c z a) λσ H Q q=>by
 obtain⟨A,ι,τ,R,S,q,k⟩:=q
 refine⟨A,ι,τ,_,S,q,λx B h H1 u j l n p=> ?_⟩
 refine⟨n.oR j.1 p,B,h,τ,_,S.next l n,j.2,λys C i H2 D E s F v2=> ?_⟩
 exact hd x ys C i H2 u D R Q F (RV.ext s x u p) v2 E (k.from (l.trans s))
end
theorem Cm{mg:ay}{A:Ar}{ι:Io}{H:Hp}{R:DK}{Q:VK}{ds es:Bi}{xs ys:Bn}{q:Nat}{d:D}{v:V}(k:Kt mg A ι H R Q)(r:RA mg ι H A)(a:A[q]?=some (.lst ds))(b:H (ι q)=some (.lst xs))(h:aj mg ι A.length H es ys)
  (c:R d (A.set q (.lst es)))(hd:∀H',RV mg ι A.length H' d v):Q v (ax H (ι q) (.lst ys)):=by
 have E:Ext A ι H (A.set q (.lst es)) ι (ax H (ι q) (.lst ys)):=r.nc (bK.mp a).1;obtain⟨e,f⟩:=r.put (c':=.lst es) (o:=.lst ys) a b rfl ⟨ys,dZ,by simpa using aj.ext E es ys h⟩;exact k _ _ _ _ _ c f e (by simpa using hd _)
@[irreducible] def vP(r:Nat)(y:D)(A:Ar)(R:DK):Prop:=match A[r]? with
 |some (.lst xs)=>xs.length<sizeLine/\R .aD (A.set r (.lst (xs++[y])))
 |_=>False
def Aa:iX:=λx vs A R=>match x,vs with
 |.ref r,[y]=>vP r y A R
 |_,_=>False
theorem qB{mg:ay}{K:Frag}:j9 mg K "list" Jd Aa:=by
 intro x ds A ι H u d R Q ra b rs h k;unfold Aa at h;split at h
 .obtain⟨_,rfl⟩:=b
  obtain⟨v,_,rfl,c,rfl⟩:=rs;unfold vP at h;split at h
  .rename_i xs e
   obtain⟨ws,h1,a⟩:=ra.lst e;exact⟨_,ws,v,rfl,rfl,h1,by rw[<-aj.length a];exact h.1,Cm k ra e h1 (a.app (es:=[_]) (ws:=[v]) ⟨v,[],rfl,c,rfl⟩) h.2 λ_=>rfl⟩
  .exact h.elim
 .exact h.elim
@[irreducible] def tG(r q:Nat)(A:Ar)(R:DK):Prop:=match A[r]?,A[q]? with
 |some (.lst xs),some (.lst ys)=>xs.length+ys.length<=sizeLine/\R .aD (A.set r (.lst (xs++ys)))
 |_,_=>False
def Gh:iX:=λx vs A R=>match x,vs with
 |.ref r,[.ref q]=>tG r q A R
 |_,_=>False
theorem sU{mg:ay}{K:Frag}:j9 mg K "list" Ji Gh:=by
 intro x ds A ι H u f R Q ra c rs h k;unfold Gh at h;split at h
 .obtain⟨_,rfl⟩:=c
  obtain⟨v,_,rfl,⟨_,rfl⟩,rfl⟩:=rs;unfold tG at h;split at h
  .rename_i xs ys e d
   obtain⟨ws,h1,a⟩:=ra.lst e;obtain⟨zs,h2,b⟩:=ra.lst d;exact⟨_,_,ws,zs,rfl,rfl,h1,h2,by rw[<-aj.length a,<-aj.length b];exact h.1,Cm k ra e h1 (a.app b) h.2 λ_=>rfl⟩
  .exact h.elim
 .exact h.elim
def Wv(RE:DX)(c:Str)(m:dD):cT:=λ_ τ A=>m τ A λvs A1=>vs.length<=sizeLine/\RE c A1
theorem oF{X:Cx}{N:En}{RE:DX}{x:Str}{C:Addr}{e:Expr}{m:dD}{np cpos pos:Pos}(f:Raises X (EL X.mg N RE))(hc:X.calm=true)(c:X.mg x=some (.ref C))(g:excIn X.K C mG "ValueError.__new__"=true)(h:PA X [e] (fU X.mg N m))(i:Gl X x:=by rfl)(a:(x==("__debug__":Str))=false:=by decide)
  (j:starEach [e] X.env=[(false,eval e X.env)]:=by rfl):PS X (.Raise (some (.Call (.Name x np) [e] [] cpos)) none pos) (cK X.mg N (Wv RE x m)):=i8 (VN f hc c g h i a j) λQ σ H q=>by
 obtain⟨A,ι,τ,R,S,q,k⟩:=q;exact⟨A,ι,τ,_,S,q,λvs l b H1 r d n o p=>⟨by rw[<-aj.length p];exact d.1,x,l,b,⟨C,rfl,c⟩,S.ex.trans n,o,d.2⟩⟩
noncomputable def ko:D->Bool
 |.int _|.str _=>true
 |_=>false
noncomputable def tF:D->D->Bool
 |.int i,.int j=>decide (i=j)
 |.str a,.str b=>decide (a=b)
 |_,_=>false
def ni(x:D)(xs:Bi):Bool:=xs.any λy=>tF y x
section
variable{mg:ay}{K:Frag}{A:Ar}{ι:Io}{H:Hp}{n:Nat}
theorem AZ{d:D}{v:V}(h:ko d=true)(r:RV mg ι n H d v):k_ v=true:=by
 cases d with
 |int i=>cases r;rfl
 |str i=>cases r;rfl
 |_=>cases h
theorem O1{d e:D}{u v:V}(h1:ko d=true)(h2:ko e=true)(b:RV mg ι n H d u)(a:RV mg ι n H e v):jJ u v=tF d e:=by
 cases d with
 |int i=>
  cases b;cases e with
  |int j=>cases a;simp[jJ,tF,Bool.beq_eq_decide_eq]
  |str j=>cases a;rfl
  |_=>cases h2
 |str i=>
  cases b;cases e with
  |int j=>cases a;rfl
  |str j=>cases a;simp[jJ,tF,Bool.beq_eq_decide_eq]
  |_=>cases h2
 |_=>cases h1
theorem Bx{x:D}{v:V}(a:ko x=true)(b:RV mg ι n H x v):∀{ds:Bi} {vs:Bn},ds.all ko=true->aj mg ι n H ds vs->w_ v vs=ni x ds/\vs.all k_=true
 |[],vs,_,r=>by cases (show vs=[] from r);exact⟨rfl,rfl⟩
 |d::ds,vs,h,r=>by
  obtain⟨y,r',rfl,h1,h2⟩:=r;have h':ko d=true/\ds.all ko=true:=by simpa using h
  obtain⟨c,e⟩:=Bx a b h'.2 h2;constructor
  .show(jJ y v||w_ v r')=(tF d x||ni x ds)
   rw[O1 h'.1 a h1 b,c]
  .simp[AZ h'.1 h1,e]
end
abbrev uM(neg:Bool):R2:=λx y H Q=>∃a o,y=.ref a/\qj H a x o/\Q (.bl (if neg then !o.isSome else o.isSome)) H
theorem B_{X:Cx}(e:X.A.units+64<cLine):bH X (compareOp .In) (uM false):=by
 intro ae s σ H x y v u Q I b c h;obtain⟨a,o,rfl,g,q⟩:=h;cases c;exact NZ ω I g b λf d=>⟨.bl o.isSome,H,d,rfl,q⟩
theorem Ug{X:Cx}(e:X.A.units+64<cLine):bH X (compareOp .NotIn) (uM true):=by
 intro ae s σ H x y v u Q I b c h;obtain⟨a,o,rfl,g,q⟩:=h;cases c;exact Oc ω I g b λf d=>⟨.bl (!o.isSome),H,d,rfl,q⟩
@[irreducible] def inR(neg:Bool)(x:D)(r:Nat)(A:Ar)(R:DK):Prop:=match A[r]? with
 |some (.lst xs)=>ko x=true/\xs.all ko=true/\R (.bl (if neg then !ni x xs else ni x xs)) A
 |some (.dct kvs)=>(match f_ x with
  |some k=>R (.bl (if neg then !(bA kvs k).isSome else (bA kvs k).isSome)) A
  |none=>False)
 |_=>False
def inD(neg:Bool):fY:=λx y A R=>match y with
 |.tup xs=>ko x=true/\xs.all ko=true/\R (.bl (if neg then !ni x xs else ni x xs)) A
 |.ref r=>inR neg x r A R
 |_=>False
theorem Fl{mg:ay}{K:Frag}(neg:Bool):fJ mg (λx y H Q=>Cq K neg x y H Q\/uM neg x y H Q) (inD neg):=by
 intro x y A ι H u v R Q ra c l h k;unfold inD at h;split at h
 .obtain⟨a,xs,rfl,m,f⟩:=l
  obtain⟨g,i⟩:=Bx h.1 c h.2.1 f;exact .inl ⟨a,xs,rfl,.inr (bV.of m),AZ h.1 c,i,by rw[g];exact k.here ra h.2.2 rfl⟩
 .obtain⟨_,rfl⟩:=l
  unfold inR at h;split at h
  .rename_i xs e
   obtain⟨j,h1,f⟩:=ra.lst e;obtain⟨g,i⟩:=Bx h.1 c h.2.1 f;exact .inl ⟨_,j,rfl,.inl (bf.of h1),AZ h.1 c,i,by rw[g];exact k.here ra h.2.2 rfl⟩
  .rename_i kvs e
   obtain⟨j,h1,f⟩:=ra.dct e;split at h
   .rename_i b n
    cases ny n c;obtain⟨g,i⟩:=RK.get (k:=b) f;refine .inr ⟨_,fF j b,rfl,.inl ⟨j,b,.inl h1,rfl,rfl⟩,?_⟩;have o:(fF j b).isSome=(bA kvs b).isSome:=by
     cases q:bA kvs b with
     |none=>rw[i q];rfl
     |some d=>obtain⟨z,p,_⟩:=g d q;rw[p];rfl
    rw[o];exact k.here ra h rfl
   .exact h.elim
  .exact h.elim
 .exact h.elim
section
variable{pos:Pos}{a b c:Expr}{ma mb mc:aT}{x:Str}
theorem vr(i:Nat)(b:X.N[i]?=some x:=by rfl)(c:qu X.env.scope x:=by first|exact Or.inl rfl|exact Or.inr (Or.inl rfl)|exact Or.inr (Or.inr rfl))(hd:(x==("__debug__":Str))=false:=by decide)
 (a:(x==("__classdict__":Str))=false:=by decide):PE X (.Name x pos) (up X.mg N (aX i)):=Ov b c hd a
theorem tE(c:X.A.units+64<cLine)(d:PE X a (up X.mg N ma))(e:PE X b (up X.mg N mb)):PE X (.Compare a [.Eq] [b] pos) (up X.mg N (bO oG ma mb)):=Fx (Iw c) Fj d e (o9 _)
theorem jS(c:X.A.units+64<cLine)(d:PE X a (up X.mg N ma))(e:PE X b (up X.mg N mb)):PT X (.Compare a [.Eq] [b] pos) (dJ X.mg N (fO (bO oG ma mb))):=mh (Iw c) Fj d e (o9 _)
theorem jv(c:X.A.units+64<cLine)(d:PE X a (up X.mg N ma))(e:PE X b (up X.mg N mb)):PT X (.Compare a [.NotEq] [b] pos) (dJ X.mg N (fO (bO qU ma mb))):=mh (Ue c) Ob d e (o9 _)
theorem C0(c:PE X a (up X.mg N ma))(d:PE X b (up X.mg N mb)):PT X (.Compare a [.Lt] [b] pos) (dJ X.mg N (fO (bO BW ma mb))):=mh Ud N_ c d (o9 _)
theorem Ll(c:PE X a (up X.mg N ma))(d:PE X b (up X.mg N mb)):PT X (.Compare a [.LtE] [b] pos) (dJ X.mg N (fO (bO mz ma mb))):=mh uu sV c d (o9 _)
theorem Lj(c:PE X a (up X.mg N ma))(d:PE X b (up X.mg N mb)):PT X (.Compare a [.Gt] [b] pos) (dJ X.mg N (fO (bO GV ma mb))):=mh UA NY c d (o9 _)
theorem Lk(c:PE X a (up X.mg N ma))(d:PE X b (up X.mg N mb)):PT X (.Compare a [.IsNot] [b] pos) (dJ X.mg N (fO (bO B9 ma mb))):=mh UM Od c d (o9 _)
theorem CY(c:X.A.units+64<cLine)(d:PE X a (up X.mg N ma))(e:PE X b (up X.mg N mb))(f:behindInMarks .In b=false:=by rfl):PT X (.Compare a [.In] [b] pos) (dJ X.mg N (fO (bO (inD false) ma mb))):=mh (UB.or (B_ c)) (Fl false) d e f
theorem uX(c:X.A.units+64<cLine)(d:PE X a (up X.mg N ma))(e:PE X b (up X.mg N mb))(f:behindInMarks .NotIn b=false:=by rfl):PT X (.Compare a [.NotIn] [b] pos) (dJ X.mg N (fO (bO (inD true) ma mb))):=mh (UL.or (Ug c)) (Fl true) d e f
theorem wB(d:PE X a (up X.mg N ma))(e:PE X b (up X.mg N mb))(hc:PE X c (up X.mg N mc))(f:lastMarks [.LtE,.LtE] [b,c]=false:=by with_unfolding_all rfl):PE X (.Compare a [.LtE,.LtE] [b,c] pos) (up X.mg N (sS mz mz ma mb mc)):=Oj uu uu sV sV d e hc f
theorem CZ(d:PE X a (up X.mg N ma))(e:PE X b (up X.mg N mb))(hc:PE X c (up X.mg N mc))(f:lastMarks [.LtE,.LtE] [b,c]=false:=by with_unfolding_all rfl):PT X (.Compare a [.LtE,.LtE] [b,c] pos) (dJ X.mg N (fO (sS mz mz ma mb mc))):=OQ uu uu sV sV d e hc f
end
theorem lu{P:Program}{w:World}{K:Frag}{mg:ay}{base:Heap}{x:Str}{st:Stmt}{Nm ps:Ap}{k n:Nat}{S:Ct}(T:TopD K mg x st ps)(Sc:bB Nm ps (aO st))(c:ps.length=n)(d:ps.length<=Nm.length)
  (b:∀(N:En) (RE:DX) (f:Addr) (a:Value) (B:Around) (outer:Fh) (s:Shared) (H:Hp) (E:XK),eL k (cU (bU P w) P w K mg base Nm x (aO st) f a B outer s H E).A->
   Raises (cU (bU P w) P w K mg base Nm x (aO st) f a B outer s H E) (EL mg N RE)->Passes (bU P w) (cU (bU P w) P w K mg base Nm x (aO st) f a B outer s H E) (EL mg N RE)->
   ∀ds A R,S ds A R RE->ds.length=n->∃m,dF (cU (bU P w) P w K mg base Nm x (aO st) f a B outer s H E) (ir st) (cK mg N m)/\m {nx:=λ_ A'=>R .aD A',rt:=R} (kI (Nm.length - n) ds) A):aC P w K mg base (k+1) x ps (aA mg n S):=by
 refine TopD.lu T Sc c d λN RE X _ _ _ _ _ _ _ _ e g i j ds A R h hl=>?_;obtain⟨f,a,B,outer,s,H,E,rfl⟩:=e;exact b N RE f a B outer s H E g i j ds A R h hl
def Wx(c:fH)(b:cT):cT:=λR τ A=>∃W:Nat->bL->Ar->Prop,(∃n,W n τ A)/\∀n τ A,W n τ A->c τ A λk A1=>cond k (∃Nx:bL->Ar->Prop,(∀bT A',Nx bT A'->∃n',n'<n/\W n' bT A')/\b {R with nx:=Nx,ct:=Nx,bk:=R.nx} τ A1) (R.nx τ A1)
section
variable{pos:Pos}{c:Expr}{body:FK}{tc:fH}{tb:cT}
theorem AM(y:PassesOwn (model X.prog X.w) X.A X.env X.xe)(hc:PT X c (dJ X.mg N tc))(B:dF X body (cK X.mg N tb)):PS X (.While c body [] pos) (cK X.mg N (Wx tc tb)):=i8 (VR y hc B) λQ σ H q=>by
 obtain⟨A,ι,τ,R,S,⟨W,⟨n,C⟩,turn⟩,k⟩:=q;refine⟨λn σ' H'=>∃A' ι' bT,eN X.mg N A' ι' bT σ' H'/\Ext A ι H A' ι' H'/\W n bT A',⟨n,A,ι,τ,S,S.ra.refl,C⟩,?_⟩;rintro m D H1 ⟨x,o,d,g,h,E⟩;refine⟨x,o,d,_,g,turn m d x E,λb F p H2 j a l=>?_⟩;cases b with
 |true=>
  rw[aB rfl];obtain⟨G,I,j⟩:=j;refine⟨λσ' H'=>∃A' ι' bT,eN X.mg N A' ι' bT σ' H'/\Ext A ι H A' ι' H'/\G bT A',λσ' H' ⟨A',ι',bT,J,K,z⟩=>?_,?_⟩
  .obtain⟨L,M,O⟩:=I bT A' z
   exact⟨L,M,A',ι',bT,J,K,O⟩
  .refine⟨F,p,d,_,g.next a l,j,⟨?_,k.rt.from (h.trans a),k.nx.from (h.trans a),?_⟩⟩
   .exact λe r f s P t i u v=>⟨r,f,e,(g.next a l).to i u v,(h.trans a).trans i,t⟩
   .exact λe r f s P t i u v=>⟨r,f,e,(g.next a l).to i u v,(h.trans a).trans i,t⟩
 |false=>
  rw[av cC];exact(k.nx.from (h.trans a)).here (g.next a l) j
end
structure lX(mg:ay)(A0:Ar)(LL:Io)(H0:Hp)(J:It)(items:Bi)(gk:Ar->Prop):Prop where
 go:∀(i:Nat) d A ι H,items[i]? =some d->Ext A0 LL H0 A ι H->RA mg ι H A->gk A->J.go i H/\∀x H',J.u6 i H x H'->Ext A ι H A ι H'/\RA mg ι H' A/\RV mg ι A.length H' d x
 stop:∀A ι H,Ext A0 LL H0 A ι H->RA mg ι H A->gk A->J.stop items.length H
abbrev jD:=bL->Ar->(Bi->(Ar->Prop)->Ar->Prop)->Prop
def jT(mg:ay)(N:En)(m:jD):TI:=λσ H Q=>∃A ι τ R,eN mg N A ι τ σ H/\m τ A R/\∀items gk A' ι' H' J,R items gk A'->Ext A ι H A' ι' H'->RA mg ι' H' A'->lX mg A' ι' H' J items gk->Q J H'
theorem qD{X:Cx}{tg e:Expr}{t a:TI}(h:PI X tg e t)(w:∀σ H Q,a σ H Q->t σ H Q):PI X tg e a:=λae s σ H Q I q=>h ae s σ H Q I (w σ H Q q)
section
variable{mg:ay}{K:Frag}{A:Ar}{ι:Io}{H:Hp}
theorem Sh{a:Addr}{ds:Bi}{xs:Bn}(f:H a=some (.tup xs))(g:aj mg ι A.length H ds xs):lX mg A ι H (vG K a) ds (λ_=>True) where
 go:=λi d h c H1 hd e r _=>by
  have b:=e.fix rfl f;obtain⟨v,h1,h2⟩:=aj.get (aj.ext e ds xs g) hd;refine⟨⟨xs,v,bV.of b,h1⟩,λx H' y=>?_⟩;obtain⟨rfl,y⟩:=y;have:=y xs (bV.of b);rw[h1] at this;cases this;exact⟨r.refl,r,h2⟩
 stop:=λh c H1 e r _=>⟨xs,bV.of (e.fix rfl f),by rw[aj.length g];exact aJ _⟩
theorem Sa{a:Addr}{o:Obj}{ns:Fn}(f:H a=some (.bW o (.lst (ns.map V.int)))):lX mg A ι H (su K a) (ns.map D.int) (λ_=>True) where
 go:=λi d g b H1 hd e r _=>by
  have c:bf K H1 a (ns.map V.int):=.inl (.inr ⟨o,e.fix rfl f⟩);obtain⟨v,h1,h2⟩:=aj.get (aj.ints (mg:=mg) (ι:=b) (H:=H1) ns (n:=g.length)) hd;refine⟨⟨_,v,c,h1⟩,λx H' y=>?_⟩;obtain⟨rfl,y⟩:=y;have:=y _ c;rw[h1] at this;cases this;exact⟨r.refl,r,h2⟩
 stop:=λg b H1 e r _=>⟨_,.inl (.inr ⟨o,e.fix rfl f⟩),θ⟩
theorem Sd{q:Nat}{ds:Bi}(b:q<A.length):lX mg A ι H (su K (ι q)) ds (λA'=>A'[q]?=some (.lst ds)) where
 go:=λi d f a H1 hd e r hc=>by
  obtain⟨xs,h1,h2⟩:=r.lst hc;rw[e.ag q b] at h1;obtain⟨v,c,g⟩:=aj.get h2 hd;refine⟨⟨xs,v,bf.of h1,c⟩,λx H' y=>?_⟩;obtain⟨rfl,y⟩:=y;have:=y xs (bf.of h1);rw[c] at this;cases this;exact⟨r.refl,r,g⟩
 stop:=λf a H1 e r hc=>by
  obtain⟨xs,h1,h2⟩:=r.lst hc;rw[e.ag q b] at h1;exact⟨xs,bf.of h1,by rw[aj.length h2];exact aJ _⟩
def gH(lo:Int)(n:Nat):Bi:=(range n).map λ(i:Nat)=>D.int (lo+i)
theorem Sf{lo:Int}{n:Nat}:lX mg A ι H (sy lo n) (gH lo n) (λ_=>True) where
 go:=λi d c a H1 hd e r _=>by
  unfold gH at hd;rw[bz] at hd;cases q:(range n)[i]? with
  |none=>rw[q] at hd;cases hd
  |some j=>
   rw[q] at hd;have hi:=(bK.mp q).1;have b:=(bK.mp q).2;simp at hi b;subst b;cases hd;refine⟨hi,λx H' y=>?_⟩;obtain⟨rfl,rfl⟩:=y;exact⟨r.refl,r,rfl⟩
 stop:=λc a H1 e r _=>by
  show n<=_;simp[gH]
def fE(z:Str):Bi:=z.cps.toList.map λc=>D.str ⟨#[c]⟩
theorem Sg{z:Str}:lX mg A ι H (zL z) (fE z) (λ_=>True) where
 go:=λi d b a H1 hd e r _=>by
  unfold fE at hd;rw[bz] at hd;cases q:z.cps.toList[i]? with
  |none=>rw[q] at hd;cases hd
  |some j=>
   rw[q] at hd;cases hd;have hi:=(bK.mp q).1;refine⟨show i<z.cps.size by simpa using hi,λx H' y=>?_⟩;obtain⟨rfl,c,hc,rfl⟩:=y;have:z.cps.toList[i]?=some c:=by simpa using hc
   rw[q] at this;cases this;exact⟨r.refl,r,rfl⟩
 stop:=λb a H1 e r _=>by
  show _=_;simp[fE]
end
def RL(K:Frag)(tl:TE):TI:=λσ H R=>tl σ H λx H1=>(∃a,x=.ref a/\(∃xs,bf K H1 a xs)/\R (su K a) H1)\/(∃a,x=.ref a/\(∃xs,bV K H1 a xs)/\R (vG K a) H1)
theorem Vq{X:Cx}{tg l:Expr}{tl:TE}(hl:PE X l tl):PI X tg l (RL X.K tl):=by
 intro ae s σ H R I h;refine aQ (hl ae s σ H _ I h) λv c ⟨x,H1,d,i,j⟩=>?_;rcases j with⟨a,e,⟨xs,f⟩,q⟩|⟨a,e,⟨xs,f⟩,q⟩
 .subst e
  cases i;obtain⟨m,k,p,n⟩:=d.list f;refine vo p.isList ?_;refine⟨c.heap.objs.size,[c.heap.objs.size],_,_,H1,rfl,d.kept (t':=c.toks) λb o e=>bu _ e,Yw a _,⟨_,cS _ rfl,rfl,rfl⟩,λb g=>?_,q⟩;have e:b=c.heap.objs.size:=by simpa using g
  subst e;exact d.ng (aJ _) (d.ar.fresh (aJ _))
 .subst e
  cases i;obtain⟨m,k,p,n⟩:=d.tuple f;refine wpAny_pyIter_tuple (show c.heap.IsTuple a m.toArray from p) ?_;refine⟨c.heap.objs.size,[c.heap.objs.size],_,_,H1,rfl,d.kept (t':=c.toks) λb o e=>bu _ e,YB a _,⟨_,cS _ rfl,rfl,rfl⟩,λb g=>?_,q⟩;have e:b=c.heap.objs.size:=by simpa using g
  subst e;exact d.ng (aJ _) (d.ar.fresh (aJ _))
@[irreducible] def itR(r:Nat)(A:Ar)(R:Bi->(Ar->Prop)->Ar->Prop):Prop:=match A[r]? with
 |some (.lst xs)=>R xs (λA'=>A'[r]?=some (.lst xs)) A
 |_=>False
def mq(m:aT):jD:=λτ A R=>m τ A λx A1=>match x with
 |.tup xs=>R xs (λ_=>True) A1
 |.fl ns=>R (ns.map .int) (λ_=>True) A1
 |.ref r=>itR r A1 R
 |_=>False
def RN(m:aT):jD:=λτ A R=>m τ A λx A1=>match x with
 |.str z=>R (fE z) (λ_=>True) A1
 |_=>False
def RG(n:dD):jD:=λτ A R=>n τ A λvs A1=>match vs with
 |[.int j]=> -(2 ^ 62)<=j/\j<2 ^ 62/\R (gH 0 j.toNat) (λ_=>True) A1
 |_=>False
section
variable{pos p:Pos}{tg e a b:Expr}{m:aT}{n:dD}{nm:Str}{px:Pos}
theorem cz(i:PE X e (up X.mg N m)):PI X tg e (jT X.mg N (mq m)):=qD (Vq i) λσ H Q q=>by
 obtain⟨A,ι,τ,R,S,q,k⟩:=q;refine⟨A,ι,τ,_,S,q,λx d c H1 u a g f h=>?_⟩;cases x with
 |tup ds=>
  obtain⟨b,xs,rfl,h1,h2⟩:=h;exact .inr ⟨b,rfl,⟨xs,bV.of h1⟩,k ds _ d c H1 _ a g f (Sh h1 h2)⟩
 |fl ns=>
  obtain⟨b,o,rfl,h1⟩:=h;exact .inl ⟨b,rfl,⟨_,.inl (.inr ⟨o,h1⟩)⟩,k _ _ d c H1 _ a g f (Sa h1)⟩
 |ref r=>
  obtain⟨j,rfl⟩:=h;have a:itR r d R:=a;unfold itR at a;split at a
  .rename_i xs e
   obtain⟨l,h1,_⟩:=f.lst e;exact .inl ⟨_,rfl,⟨l,bf.of h1⟩,k _ _ d c H1 _ a g f (Sd j)⟩
  .exact a.elim
 |_=>exact a.elim
theorem AI(c:PE X e (up X.mg N m)):PI X (.Name nm px) e (jT X.mg N (RN m)):=qD (Vr c) λσ H Q q=>by
 obtain⟨A,ι,τ,R,S,q,k⟩:=q;refine⟨A,ι,τ,_,S,q,λx d a H1 u b f g h=>?_⟩;cases x with
 |str z=>exact⟨z,h,k _ _ d a H1 _ b f g Sg⟩
 |_=>exact b.elim
theorem AH(e:X.mg "range"=none)(f:PA X [a] (fU X.mg N n))(g:Gl X "range":=by rfl)(h:starEach [a] X.env=[(false,eval a X.env)]:=by rfl):PI X tg (.Call (.Name "range" p) [a] [] pos) (jT X.mg N (RG n)):=qD (Vo g e f h) λσ H Q q=>by
 obtain⟨A,ι,τ,R,S,q,k⟩:=q;refine⟨A,ι,τ,_,S,q,λx i c H1 u b l m d=>?_⟩;match x,b,d with
 |[.int j],b,d=>
  obtain⟨_,_,rfl,rfl,rfl⟩:=d;exact⟨j,rfl,b.1,b.2.1,k _ _ i c H1 _ b.2.2 l m Sf⟩
end
def qA(gk:Ar->Prop)(g:kR)(b:cT)(R:lU):Bi->bL->Ar->Prop
 |[],τ,A=>gk A/\R.nx τ A
 |x::xs,τ,A=>gk A/\g x τ A λDA A1=>b {R with nx:=qA gk g b R xs,ct:=qA gk g b R xs,bk:=R.nx} DA A1
def pL(it:jD)(g:kR)(b:cT):cT:=λR τ A=>it τ A λitems gk A1=>qA gk g b R items τ A1
theorem d_{X:Cx}{N:En}{pos:Pos}{tg iter:Expr}{body:FK}{it:jD}{g:kR}{tb:cT}(P:PassesOwn (model X.prog X.w) X.A X.env X.xe)(hc:X.calm=true)(hi:PI X tg iter (jT X.mg N it))(T:PG X tg (pP X.mg N g))(U:dF X body (cK X.mg N tb))
  (V:∀x,foldedSetIterable iter X.env x=pure x:=by intro _;rfl):PS X (.For tg iter body [] pos) (cK X.mg N (pL it g tb)):=i8 (VJ P hc hi T U V) λQ σ H q=>by
 obtain⟨A,ι,τ,R,S,q,k⟩:=q;refine⟨A,ι,τ,_,S,q,λitems n v b H1 J W s M O=>?_⟩;have Y:=S.next s M;refine⟨λi m σ' H'=>m=items.length - i/\i<=items.length/\∃A' ι' bT,eN X.mg N A' ι' bT σ' H'/\Ext v b H1 A' ι' H'/\qA n g tb R (items.drop i) bT A',⟨_,rfl,b_ _,v,b,τ,Y,M.refl,by simpa using W⟩,?_⟩;rintro i m Z H2 ⟨rfl,hi,B,c,C,d,f,h⟩;by_cases hl:i<items.length
 .right
  have hd:items.drop i=items[i]::items.drop (i+1):=by rw[mU hl]
  rw[hd] at h;obtain⟨o,h⟩:=h;obtain⟨g1,g2⟩:=O.go i items[i] B c H2 (by rw[aS hl]) f d.ra o;refine⟨g1,λσ' H'=>∃A' ι' bT,eN X.mg N A' ι' bT σ' H'/\Ext v b H1 A' ι' H'/\qA n g tb R (items.drop (i+1)) bT A',λσ' H' ⟨A',ι',bT,z⟩=>⟨_,ω,rfl,hl,A',ι',bT,z⟩,λx H3 y=>?_⟩;obtain⟨p,t,v3⟩:=g2 x H3 y;refine⟨B,c,C,items[i],_,d.next p t,v3,h,λD A4 E Y9 H4 q4 u F s4=>?_⟩;have a:=p.trans u;refine⟨A4,E,D,_,(d.next p t).to u F s4,q4,⟨?_,k.rt.from ((s.trans f).trans a),k.nx.from ((s.trans f).trans a),?_⟩⟩
  .exact λj G l I H5 K r L s5=>⟨G,l,j,((d.next p t).to u F s4).to r L s5,(f.trans a).trans r,K⟩
  .exact λj G l I H5 K r L s5=>⟨G,l,j,((d.next p t).to u F s4).to r L s5,(f.trans a).trans r,K⟩
 .left
  have e:i=items.length:=ω
  subst e;rw[List.drop_length] at h;exact⟨O.stop B c H2 f d.ra h.1,(k.nx.from (s.trans f)).here d h.2⟩
noncomputable def mF:Option Nat->D->Option Bi
 |none,x=>some [x]
 |some k,.tup ds=>if ds.length=k then some ds else none
 |some _,_=>none
def jG(gk:Ar->Prop)(k:Option Nat)(fr:bL)(tt:fH)(te:aT)(R:Bi->Ar->Prop):Bi->Bi->Ar->Prop
 |[],ys,A=>gk A/\R ys A
 |x::xs,ys,A=>gk A/\match mF k x with
  |some vs=>tt (vs.map some++fr) A λb A3=>cond b (te (vs.map some++fr) A3 λy A4=>ys.length<sizeLine/\jG gk k fr tt te R xs (ys++[y]) A4) (jG gk k fr tt te R xs ys A3)
  |none=>False
def jI(k:Option Nat)(ix:Dx)(it:jD)(tt:fH)(te:aT):aT:=λτ A R=>it τ A λitems gk A1=>jG gk k (ix.map (lk τ)) tt te (λys A2=>R (.ref A2.length) (A2++[.lst ys])) items [] A1
def tP:Nat->Nat->kY
 |_,0=>GJ
 |i,n+1=>GI (qL i) (tP (i+1) n)
def rE(K:Frag):Option Nat->TG
 |none=>qL 0
 |some k=>GK K k (tP 0 k)
theorem GU{Q:St->Hp->Prop}{H:Hp}{fs:St}:∀(xs:Bn) (a:St),Q (a++(xs.map some++fs)) H->tP a.length xs.length xs (a++(replicate xs.length none++fs)) H Q
 |[],a,h=>⟨rfl,by simpa using h⟩
 |x::r,a,h=>by
  refine⟨x,r,rfl,?_⟩;show tP (a.length+1) r.length r ((a++(replicate (r.length+1) none++fs)).set a.length (some x)) H Q;have e:(a++(replicate (r.length+1) none++fs)).set a.length (some x)=(a++[some x])++(replicate r.length none++fs):=by
   rw[List.set_append_right _ _ (aJ _)];simp[List.replicate_succ]
  rw[e];have:=GU r (a++[some x]) (by simpa using h);simpa using this
theorem HG{fs:St}:∀(xs:St),iI (replicate xs.length none++fs) (xs++fs)
 |[]=>iI.refl fs
 |x::r=>.own (HG r)
section
variable{mg:ay}{K:Frag}{A:Ar}{ι:Io}{H:Hp}
theorem Ym{k:Option Nat}{d:D}{vs:Bi}{x:V}{n:Nat}(b:mF k d=some vs)(r:RV mg ι n H d x):∃xs,aj mg ι n H vs xs/\vs.length=k.getD 1/\∀(fs:St) (Q:St->Hp->Prop),Q (xs.map some++fs) H->rE K k x (replicate (k.getD 1) none++fs) H Q:=by
 cases k with
 |none=>
  cases b;exact⟨[x],⟨x,[],rfl,r,rfl⟩,rfl,λfs Q q=>q⟩
 |some k=>
  cases d with
  |tup ds=>
   have b:(if ds.length=k then some ds else none)=some vs:=b;by_cases hl:ds.length=k
   .rw[aB hl] at b
    cases b;obtain⟨a,xs,rfl,h1,h2⟩:=r;have c:=aj.length h2;refine⟨xs,h2,hl,λfs Q q=>⟨a,xs,rfl,bV.of h1,by rw[<-c];exact hl,?_⟩⟩;have:=GU (Q:=Q) (H:=H) (fs:=fs) xs [] q;show tP 0 k xs (replicate k none++fs) H Q;have e:k=xs.length:=by rw[<-c,hl]
    rw[e];exact this
   .rw[av hl] at b
    cases b
  |_=>cases b
theorem RA.off(R:RA mg ι H A){p:Addr}{o u:HO}(a:∀r,r<A.length->ι r≠p)(d:H p=some u)(e:jO u=true):RA mg ι (ax H p o) A:=
 ⟨λr c h=>CO.ag (aJ _) (λ_ _=>rfl) (λb q m z=>by
  rw[aY]
  .exact z
  .rintro rfl
   rw[d] at z;cases z;rw[e] at m;cases m) (λq z=>by rw[aY (a r (bK.mp h).1)];exact z) c (R.iZ r c h),R.inj⟩
end
theorem Xz{own:Ap}{ix:Dx}{σ:St}:L2.stC own ix σ=replicate own.length none++ix.map λi=>(σ[i]?).join:=by
 unfold L2.stC;rw[List.map_const']
theorem HV:∀(ds:Bi) (fr:bL) (i:Nat) (d:D),lk (ds.map some++fr) i=some d->(ds[i]?=some d)\/(ds.length<=i/\lk fr (i - ds.length)=some d)
 |[],fr,i,d,h=>.inr ⟨b_ _,by simpa using h⟩
 |x::r,fr,0,d,h=>.inl (by simpa[lk] using h)
 |x::r,fr,i+1,d,h=>by
  rcases HV r fr i d (by simpa[lk] using h) with q|⟨a,b⟩
  .exact .inl (by simpa using q)
  .exact .inr ⟨by simpa using a,by simpa using b⟩
theorem RS.block{mg:ay}{ι:Io}{n:Nat}{H:Hp}{τ:bL}{σ:St}{ix:Dx}{vs:Bi}{xs:Bn}(r:RS mg ι n H τ σ)(h:aj mg ι n H vs xs):RS mg ι n H (vs.map some++ix.map (lk τ)) (xs.map some++ix.map λi=>(σ[i]?).join):=⟨by simp[aj.length h],λi d q=>by
 have hl:=aj.length h;rcases HV vs _ i d q with q|⟨b,a⟩
 .obtain⟨v,h1,h2⟩:=aj.get h q
  have hi:=(bK.mp h1).1;exact⟨v,by rw[iG (by simpa using hi),bz,h1];rfl,h2⟩
 .rw[qT,bz] at a
  cases e:ix[i - vs.length]? with
  |none=>rw[e] at a;simp at a
  |some j=>
   rw[e] at a;have a:lk τ j=some d:=by simpa using a
   obtain⟨v,h1,h2⟩:=r.at' j d a;refine⟨v,?_,h2⟩;rw[sf (by simpa[<-hl] using b),bz,aM,<-hl,e];simp[h1]⟩
section
variable{own aw:Ap}{ix:Dx}{it:jD}{tt:fH}{te:aT}{k:Option Nat}
theorem yU(hk:own.length=k.getD 1){tT:CP->TT}(hT:∀c σ H Q,dJ X.mg N tt σ H Q->tT c σ H Q){σ:St}{H:Hp}{Q:VK}(q:up X.mg N (jI k ix it tt te) σ H Q):CU own ix (jT X.mg N it) (λ_=>rE X.K k) tT (λ_=>up X.mg N te) σ H Q:=by
 obtain⟨A,ι,τ,R,S,q,kq⟩:=q;refine⟨A,ι,τ,_,S,q,λitems V A1 F H1 J q1 e1 r1 j1 c acc f=>?_⟩;have S1:=S.next e1 r1;rw[Xz,hk];have W:∀r,r<A1.length->F r≠acc:=λr n z=>by
  obtain⟨o,h1,_⟩:=r1.im r n;rw[z,f] at h1;cases h1
 have rn:=r1.tH (o:=.lst []) f;refine⟨λi m ys H'=>m=items.length - i/\i<=items.length/\∃A' ι' d,RA X.mg ι' H' A'/\Ext A1 F H1 A' ι' H'/\(∀r,r<A'.length->ι' r≠acc)/\H' acc=some (.lst ys)/\aj X.mg ι' A'.length H' d ys/\jG V k (ix.map (lk τ)) tt te (λys a=>R (.ref a.length) (a++[.lst ys])) (items.drop i) d A',
  ⟨_,rfl,b_ _,A1,F,[],r1.fix rn (λb o z=>by rw[aY (di z f)];exact z),rn,W,dZ,rfl,by simpa using q1⟩,?_⟩
 rintro i m ys H2 ⟨rfl,hi,a,g,d,r2,D,l,hy,ry,E⟩;refine⟨hy,?_⟩;by_cases hl:i<items.length
 .right
  have hd:items.drop i=items[i]::items.drop (i+1):=by rw[mU hl]
  rw[hd] at E;obtain⟨t,E⟩:=E;obtain⟨g1,g2⟩:=j1.go i items[i] a g H2 (by rw[aS hl]) D r2 t;refine⟨g1,λM H'=>∃A' ι' I,RA X.mg ι' H' A'/\Ext A1 F H1 A' ι' H'/\(∀r,r<A'.length->ι' r≠acc)/\H' acc=some (.lst M)/\aj X.mg ι' A'.length H' I M/\jG V k (ix.map (lk τ)) tt te (λys a=>R (.ref a.length) (a++[.lst ys])) (items.drop (i+1)) I A',λM H' z=>⟨_,ω,rfl,hl,z⟩,λx H3 y=>?_⟩;obtain⟨e3,r3,v3⟩:=g2 x H3 y;split at E
  .rename_i vs hu
   obtain⟨xs,h1,h2,h3⟩:=Ym (K:=X.K) hu v3;refine h3 _ _ ⟨by have:=HG (fs:=ix.map λi=>(σ[i]?).join) (xs.map some);rw[aM,<-aj.length h1,h2] at this;exact this,?_⟩;have G:=D.trans e3;have S3:eN X.mg N a g (vs.map some++ix.map (lk τ)) (xs.map some++ix.map λi=>(σ[i]?).join) H3:=⟨r3,RS.block (S1.rs.ext G) h1,S1.ex.trans G⟩;have Y:H3 acc=some (.lst ys):=e3.mo acc _ hy l;refine hT _ _ _ _ ⟨a,g,_,_,S3,E,λb A4 O H4 q4 P r4=>?_⟩;have w:∀r,r<A4.length->O r≠acc:=λr n z=>by
    by_cases hl:r<a.length
    .rw[P.ag r hl] at z;exact l r hl z
    .have:=P.nw r ω n
     rw[z,Y] at this;cases this
   have T:H4 acc=some (.lst ys):=P.mo acc _ Y l;have Z:=aj.ext (e3.trans P) d ys ry;cases b with
   |true=>
    refine R3 ?_;refine⟨A4,O,_,_,S3.next P r4,q4,λv A5 LM H5 u q5 e5 r5 v5=>?_⟩;have U:H5 acc=some (.lst ys):=e5.mo acc _ T w;have L:∀r,r<A5.length->LM r≠acc:=λr n z=>by
     by_cases hl:r<A4.length
     .rw[e5.ag r hl] at z;exact w r hl z
     .have:=e5.nw r ω n
      rw[z,T] at this;cases this
    have JF:=aj.ext e5 d ys Z;have p:=(G.trans P).trans e5;have fx:∀b o,jO o=false->H5 b=some o->ax H5 acc (.lst (ys++[u])) b=some o:=λb o m z=>by
     rw[aY]
     .exact z
     .rintro rfl
      rw[U] at z;cases z;cases m
    refine⟨U,by rw[<-aj.length JF];exact q5.1,A5,LM,d++[v],r5.off L U rfl,⟨p.len,p.ag,p.im,λb o z hn=>?_,p.nw,λb o z=>?_⟩,L,dZ,?_,q5.2⟩
    .rw[aY (di z f)];exact p.mo b o z hn
    .obtain⟨o',h'⟩:=p.al b o z
     exact⟨o',by rw[aY (di z f)];exact h'⟩
    .exact aj.ag (aJ _) (λ_ _=>rfl) fx _ _ (JF.app (es:=[v]) (ws:=[u]) ⟨u,[],rfl,v5,rfl⟩)
   |false=>
    refine R1 ?_;exact⟨A4,O,d,r4,G.trans P,w,T,Z,q4⟩
  .exact E.elim
 .left
  have e:i=items.length:=ω
  subst e;rw[List.drop_length] at E;obtain⟨t,E⟩:=E;refine⟨j1.stop a g H2 D r2 t,?_⟩;obtain⟨B,j,at2⟩:∃B:Io,(∀r,r<a.length->B r=g r)/\B a.length=acc:=⟨λr=>if r=a.length then acc else g r,λr h=>by
   show(if r=a.length then acc else g r)=g r;rw[av ω],by
   show(if a.length=a.length then acc else g a.length)=acc;rw[aB rfl]⟩
  refine kq (.ref a.length) (a++[.lst d]) B H2 _ E (e1.trans ⟨by have:=D.len;simp;omega,λr h=>by rw[j r (dj h D.len)];exact D.ag r h,D.im,D.mo,λr h1 h2=>?_,D.al⟩) ⟨λr c h=>?_,λr s n hs h=>?_⟩ ⟨θ,by rw[at2]⟩
  .by_cases n:r<a.length
   .rw[j r n];exact D.nw r h1 n
   .have:r=a.length:=by simp at h2;omega
    subst this;rw[at2];exact f
  .by_cases n:r<a.length
   .rw[iG n] at h
    have:=CO.ag (n':=(a++[C.lst d]).length) (ι':=B) (H':=H2) θ j (λ_ _ _ z=>z) (λ_ z=>z) c (r2.iZ r c h);rw[j r n];exact this
   .have hr':r=a.length:=by
     have:=(bK.mp h).1;simp at this;omega
    subst hr';simp at h;subst h;rw[at2];exact⟨ys,hy,aj.ag θ j (λ_ _ _ z=>z) d ys ry⟩
  .simp at n hs
   by_cases h1:r=a.length
   .by_cases h2:s=a.length
    .rw[h1,h2]
    .subst h1
     rw[at2,j s ω] at h;exact absurd h.symm (l s ω)
   .by_cases h2:s=a.length
    .subst h2
     rw[at2,j r ω] at h;exact absurd h (l r ω)
    .rw[j r ω,j s ω] at h
     exact r2.inj r s ω ω h
end
def mE:fH:=λ_ A R=>R true A
section
variable{own aw:Ap}{ix:Dx}{it:jD}{tt:fH}{te:aT}(k:Option Nat){tg iter elt sR:Expr}{scope:Scope}{pos:Pos}
theorem gQ(a:own.length=k.getD 1)(hi:PI X tg iter (jT X.mg N it))(b:∀c,PG (cy X (own++aw) scope c) tg (rE X.K k))(d:∀c,PE (cy X (own++aw) scope c) elt (up X.mg N te))(S:gV X scope aw:=by exact⟨rfl,η,η,η,η,rfl⟩)(hc:X.calm=true:=by rfl)(e:ix.map (λi=>X.N[i]?)=aw.map some:=by rfl)(f:∀x,foldedSetIterable iter X.env x=pure x:=by intro _;rfl):
  PE X (.ListComp elt [⟨tg,iter,[],0⟩] scope pos) (up X.mg N (jI k ix it mE te)):=
 dU (IM hi b (λc=>jE.nil) d S hc e f) λσ H Q q=>yU (own:=own) a (λ_ σ H Q h=>by
  obtain⟨A,ι,τ,R,S,h,k⟩:=h;exact k.here S.ra h) q
theorem AE(a:own.length=k.getD 1)(hi:PI X tg iter (jT X.mg N it))(b:∀c,PG (cy X (own++aw) scope c) tg (rE X.K k))(d:∀c,PT (cy X (own++aw) scope c) sR (dJ X.mg N tt))(e:∀c,PE (cy X (own++aw) scope c) elt (up X.mg N te))(S:gV X scope aw:=by exact⟨rfl,η,η,η,η,rfl⟩)(hc:X.calm=true:=by rfl)(f:ix.map (λi=>X.N[i]?)=aw.map some:=by rfl)(g:∀x,foldedSetIterable iter X.env x=pure x:=by intro _;rfl):
  PE X (.ListComp elt [⟨tg,iter,[sR],0⟩] scope pos) (up X.mg N (jI k ix it tt te)):=
 dU (IM hi b (λc=>jE.one (d c)) e S hc f g) λσ H Q q=>yU (own:=own) a (λ_ σ H Q h=>h) q
variable{i:Nat}{x:Str}{pos' spos:Pos}
theorem s_(a:X.N.Nodup)(b:X.N[i]?=some x)(f:Loc X.env.scope x)(g:own.length=k.getD 1)(hi:PI X tg iter (jT X.mg N it))(j:∀c,PG (cy X (own++aw) scope c) tg (rE X.K k))(l:∀c,PE (cy X (own++aw) scope c) elt (up X.mg N te))(S:gV X scope aw:=by exact⟨rfl,η,η,η,η,rfl⟩)(hc:X.calm=true:=by rfl)(m:ix.map (λi=>X.N[i]?)=aw.map some:=by rfl)(n:∀x,foldedSetIterable iter X.env x=pure x:=by intro _;rfl)
  (d:swapsWith (.ListComp elt [⟨tg,iter,[],0⟩] scope pos) (some (.Name x pos')) spos.line X.env=pure true:=by rfl)(o:autoParam (X.fn x=true\/X.env.scope.names.lookup x=some .local) Zw):
  PS X (.Assign [.Name x pos'] (.ListComp elt [⟨tg,iter,[],0⟩] scope pos) spos) (cK X.mg N (jQ i (jI k ix it mE te))):=
 i8 (IY a b f hi j (λc=>jE.nil) l S hc m n d o) λQ σ H q=>by
  obtain⟨A,ι,τ,R,Z,q,k⟩:=q;exact yU (own:=own) g (λ_ σ H Q h=>by
   obtain⟨A,ι,τ,R,S,h,k⟩:=h;exact k.here S.ra h) ⟨A,ι,τ,_,Z,q,λv w p H1 u r e s t=>(k.nx.from e).here ((Z.next e s).set t) r⟩
theorem AL(a:X.N.Nodup)(b:X.N[i]?=some x)(f:Loc X.env.scope x)(g:own.length=k.getD 1)(hi:PI X tg iter (jT X.mg N it))(j:∀c,PG (cy X (own++aw) scope c) tg (rE X.K k))(l:∀c,PT (cy X (own++aw) scope c) sR (dJ X.mg N tt))(m:∀c,PE (cy X (own++aw) scope c) elt (up X.mg N te))(S:gV X scope aw:=by exact⟨rfl,η,η,η,η,rfl⟩)(hc:X.calm=true:=by rfl)(n:ix.map (λi=>X.N[i]?)=aw.map some:=by rfl)(o:∀x,foldedSetIterable iter X.env x=pure x:=by intro _;rfl)
  (d:swapsWith (.ListComp elt [⟨tg,iter,[sR],0⟩] scope pos) (some (.Name x pos')) spos.line X.env=pure true:=by rfl)(p:autoParam (X.fn x=true\/X.env.scope.names.lookup x=some .local) Zw):
  PS X (.Assign [.Name x pos'] (.ListComp elt [⟨tg,iter,[sR],0⟩] scope pos) spos) (cK X.mg N (jQ i (jI k ix it tt te))):=
 i8 (IY a b f hi j (λc=>jE.one (l c)) m S hc n o d p) λQ σ H q=>by
  obtain⟨A,ι,τ,R,Z,q,k⟩:=q;exact yU (own:=own) g (λ_ σ H Q h=>h) ⟨A,ι,τ,_,Z,q,λv y r H1 u s e t w=>(k.nx.from e).here ((Z.next e t).set w) s⟩
end
def cutD(xs:Bi)(lo hi:Option Int):Bi:=(xs.drop (HT.jf xs.length 0 lo)).take (HT.jf xs.length xs.length hi - HT.jf xs.length 0 lo)
@[irreducible] def Xo(r:Nat)(lo hi:Option Int)(A:Ar)(R:DK):Prop:=match A[r]? with
 |some (.lst xs)=>R (.ref A.length) (A++[.lst (cutD xs lo hi)])
 |_=>False
def Z0(x:D)(lo hi:Option Int)(A:Ar)(R:DK):Prop:=match x with
 |.tup xs=>¬(HT.jf xs.length 0 lo=0/\HT.jf xs.length xs.length hi=xs.length)/\R (.tup (cutD xs lo hi)) A
 |.ref r=>Xo r lo hi A R
 |_=>False
noncomputable def lH:Bi->Option Ap
 |[]=>some []
 |.str b::r=>(lH r).map (b::·)
 |_::_=>none
theorem Li{mg:ay}{ι:Io}{n:Nat}{H:Hp}:∀{ds:Bi} {a:Bn} {bs:Ap},lH ds=some bs->aj mg ι n H ds a->a=bs.map V.str
 |[],a,bs,h,r=>by cases h;exact r
 |d::ds,a,bs,h,r=>by
  obtain⟨x,r',rfl,h1,h2⟩:=r;cases d with
  |str b=>
   cases q:lH ds with
   |none=>simp[lH,q] at h
   |some l=>
    simp[lH,q] at h;subst h;rw[Li q h2];cases h1;rfl
  |_=>simp[lH] at h
theorem aj.strs{mg:ay}{ι:Io}{H:Hp}:∀(ns:Ap) {n:Nat},aj mg ι n H (ns.map D.str) (ns.map V.str)
 |[],_=>rfl
 |i::r,n=>⟨_,_,rfl,rfl,aj.strs r⟩
@[irreducible] def uU(r:Nat)(A:Ar)(R:DK):Prop:=match A[r]? with
 |some (.lst xs)=>(match lH xs with
  |some ss=>ss.length<64/\∀ys:Ap,ys.Pairwise strLt->(∀x,x∈ys↔x∈ss)->R (.ref A.length) (A++[.lst (ys.map D.str)])
  |none=>False)
 |_=>False
def Xv:iW:=λvs A R=>match vs with
 |[.ref r]=>uU r A R
 |_=>False
theorem FA{X:Cx}{N:En}{e:Expr}{n:dD}{m p2 c a:Pos}(d:X.mg "sorted"=none)(f:X.mg "set"=none)(hc:X.calm=true)(o:PA X [e] (fU X.mg N n))(g:Gl X "sorted":=by rfl)(h:Gl X "set":=by rfl)
  (p:starEach [e] X.env=[(false,eval e X.env)]:=by rfl)(y:starEach [.Call (.Name "set" p2) [e] [] a] X.env=[(false,eval (.Call (.Name "set" p2) [e] [] a) X.env)]:=by rfl):
  PE X (.Call (.Name "sorted" m) [.Call (.Name "set" p2) [e] [] a] [] c) (up X.mg N (l_ Xv n)):=dU (Vc d f hc o g h p y) λσ H Q q=>by
 obtain⟨A,ι,τ,R,S,q,k⟩:=q;refine⟨A,ι,τ,_,S,q,λvs s t H1 u b v j i=>?_⟩;match vs,b,i with
 |[.ref r],b,i=>
  obtain⟨_,_,rfl,⟨_,rfl⟩,rfl⟩:=i;have b:uU r s R:=b;unfold uU at b;split at b
  .rename_i xs e
   split at b
   .rename_i z es
    obtain⟨u,h1,h2⟩:=j.lst e;exact⟨_,z,rfl,bf.of (by rw[h1,Li es h2]),b.1,λl ys hl w x=>kF (k.from v) j (aj.strs ys) (b.2 ys w x) hl⟩
   .exact b.elim
  .exact b.elim
def cQ{β:Type}(kvs:List (Key×β))(k:Key)(v:β):List (Key×β):=
 if (kvs.any λkv=>decide (kv.1=k))=true then kvs.map (λkv=>if kv.1=k then (kv.1,v) else kv) else kvs++[(k,v)]
section
variable{mg:ay}{ι:Io}{H:Hp}{n:Nat}
theorem RK.any{k:Key}:∀{kvs:List (Key×D)} {xs:List (Key×V)},RK mg ι n H kvs xs->(kvs.any λa=>decide (a.1=k))=(xs.any λa=>decide (a.1=k))
 |[],xs,h=>by cases (show xs=[] from h);rfl
 |p::r,xs,h=>by
  obtain⟨x,r',rfl,h1,h2⟩:=h;rw[qc,qc,RK.any h2]
theorem RK.BZ{k:Key}{d:D}{v:V}(c:RV mg ι n H d v):∀{kvs:List (Key×D)} {xs:List (Key×V)},RK mg ι n H kvs xs->RK mg ι n H (kvs.map λa=>if a.1=k then (a.1,d) else a) (xs.map λa=>if a.1=k then (a.1,v) else a)
 |[],xs,h=>by cases (show xs=[] from h);rfl
 |p::r,xs,h=>by
  obtain⟨x,r',rfl,h1,h2⟩:=h;rw[cM,cM];by_cases b:p.1=k
  .rw[aB b,aB b];exact⟨v,_,rfl,c,RK.BZ c h2⟩
  .rw[av b,av b];exact⟨x,_,rfl,h1,RK.BZ c h2⟩
theorem RK.app:∀{ds es:List (Key×D)} {vs ws:List (Key×V)},RK mg ι n H ds vs->RK mg ι n H es ws->RK mg ι n H (ds++es) (vs++ws)
 |[],_,vs,_,h,q=>by have h':vs=[]:=h;rw[h'];exact q
 |d::ds,es,vs,ws,h,q=>by
  obtain⟨x,r,rfl,a,b⟩:=h;exact⟨x,r++ws,rfl,a,RK.app b q⟩
theorem RK.put{k:Key}{d:D}{v:V}(a:RV mg ι n H d v){kvs:List (Key×D)}{xs:List (Key×V)}(h:RK mg ι n H kvs xs):RK mg ι n H (cQ kvs k d) (putK xs k v):=by
 unfold cQ putK;rw[RK.any h];split
 .exact RK.BZ a h
 .exact h.app (es:=[(k,d)]) (ws:=[(k,v)]) ⟨v,[],rfl,a,rfl⟩
end
noncomputable def fR:Bi->Option (List (Key×D))
 |[]=>some []
 |.tup [a,b]::r=>(match f_ a,fR r with
  |some k,some l=>some ((k,b)::l)
  |_,_=>none)
 |_::_=>none
def pK(ps:List (Key×D)):List (Key×D):=ps.foldl (λacc p=>cQ acc p.1 p.2) []
section
variable{mg:ay}{K:Frag}{ι:Io}{H:Hp}{n:Nat}
theorem IE:∀{ds:Bi} {c:Bn} {ps:List (Key×D)},fR ds=some ps->aj mg ι n H ds c->∃C,RK mg ι n H ps C/\c.length=C.length/\∀(i:Nat) (x:V) (p:Key×V),c[i]?=some x->C[i]?=some p->∃t,x=.ref t/\bV K H t [kV p.1,p.2]
 |[],c,ps,h,r=>by
  cases h;cases (show c=[] from r);exact⟨[],rfl,rfl,λi x p e=>by simp at e⟩
 |.tup [a,b]::ds,c,ps,h,r=>by
  obtain⟨x,r',rfl,h1,h2⟩:=r;unfold fR at h;split at h
  .rename_i k l m o
   cases h;obtain⟨C,q,s,u⟩:=IE o h2;obtain⟨t,xs,rfl,v,B,_,rfl,w,d,_,rfl,y,A⟩:=h1;obtain rfl:=A;cases ny m w;refine⟨(k,d)::C,⟨d,C,rfl,y,q⟩,by simp[s],λi z p E j=>?_⟩;cases i with
   |zero=>
    have f:V.ref t=z:=by simpa using E
    have g:(k,d)=p:=by simpa using j
    subst f g;exact⟨t,rfl,bV.of v⟩
   |succ i=>exact u i z p (by simpa using E) (by simpa using j)
  .cases h
 |.aD::_,_,_,h,_=>by simp[fR] at h
 |.bl _::_,_,_,h,_=>by simp[fR] at h
 |.int _::_,_,_,h,_=>by simp[fR] at h
 |.str _::_,_,_,h,_=>by simp[fR] at h
 |.ref _::_,_,_,h,_=>by simp[fR] at h
 |.fl _::_,_,_,h,_=>by simp[fR] at h
 |.exc _::_,_,_,h,_=>by simp[fR] at h
 |.tup []::_,_,_,h,_=>by simp[fR] at h
 |.tup [_]::_,_,_,h,_=>by simp[fR] at h
 |.tup (_::_::_::_)::_,_,_,h,_=>by simp[fR] at h
theorem RK.fold{ps:List (Key×D)}{c:List (Key×V)}(h:RK mg ι n H ps c):∀{acc:List (Key×D)} {sF:List (Key×V)},RK mg ι n H acc sF->RK mg ι n H (ps.foldl (λacc p=>cQ acc p.1 p.2) acc) (c.foldl (λacc p=>putK acc p.1 p.2) sF):=by
 induction ps generalizing c with
 |nil=>intro acc sF a;cases (show c=[] from h);exact a
 |cons p r b=>
  intro acc sF a;obtain⟨x,r',rfl,h1,h2⟩:=h;exact b h2 (RK.put h1 a)
end
theorem Il{mg:ay}{A:Ar}{ι:Io}{H:Hp}{R:DK}{Q:VK}{ds:List (Key×D)}{xs:List (Key×V)}{p:Addr}(k:Kt mg A ι H R Q)(r:RA mg ι H A)(h:RK mg ι A.length H ds xs)(q:R (.ref A.length) (A++[.dct ds]))(a:H p=none):Q (.ref p) (ax H p (.dK xs)):=by
 have E:Ext A ι H (A++[.dct ds]) (λr=>if r=A.length then p else ι r) (ax H p (.dK xs)):=r.AW a;obtain⟨b,d⟩:=r.push (c:=.dct ds) (o:=.dK xs) a ⟨xs,dZ,by simpa using RK.ext E ds xs h⟩;refine k _ _ _ _ _ q d b ⟨θ,?_⟩;show V.ref p=V.ref (if A.length=A.length then p else ι A.length);rw[aB rfl]
@[irreducible] def dctP(xs:Bi)(A:Ar)(R:DK):Prop:=match fR xs with
 |some ps=>ps.length<=1000/\R (.ref A.length) (A++[.dct (pK ps)])
 |none=>False
@[irreducible] def wg(r:Nat)(A:Ar)(R:DK):Prop:=match A[r]? with
 |some (.lst xs)=>dctP xs A R
 |_=>False
def AA:iW:=λvs A R=>match vs with
 |[.tup xs]=>dctP xs A R
 |[.ref r]=>wg r A R
 |_=>False
theorem RK.len'{mg:ay}{ι:Io}{H:Hp}{n:Nat}{ds:List (Key×D)}{vs:List (Key×V)}(h:RK mg ι n H ds vs):vs.length=ds.length:=(RK.length h).symm
theorem v_{mg:ay}{K:Frag}:jl mg (λxs H Q=>∃(p:Addr) (ts:Bn) (ps:List (Key×V)),xs=[.ref p]/\(H p=some (.lst ts)\/H p=some (.tup ts))/\Pairs K H ts ps/\ps.length<=1000/\∀d,H d=none->Q (.ref d) (ax H d (.dK (putAll ps)))) AA:=by
 intro ds A ι H c R Q ra rs h k;have fin:∀(xs:Bi) (ts:Bn) (p:Addr),aj mg ι A.length H xs ts->(H p=some (.lst ts)\/H p=some (.tup ts))->dctP xs A R->∃(q:Addr) (ts:Bn) (ps:List (Key×V)),[V.ref p]=[.ref q]/\(H q=some (.lst ts)\/H q=some (.tup ts))/\Pairs K H ts ps/\ps.length<=1000/\∀d,H d=none->Q (.ref d) (ax H d (.dK (putAll ps))):=λxs ts p r g h=>by
  unfold dctP at h;split at h
  .rename_i ps ep
   obtain⟨m,f,i,j⟩:=IE (K:=K) ep r;exact⟨p,ts,m,rfl,g,⟨i,j⟩,by rw[RK.len' f];exact h.1,λd hd=>Il k ra (RK.fold f (acc:=[]) (sF:=[]) rfl) h.2 hd⟩
  .exact h.elim
 unfold AA at h;split at h
 .obtain⟨_,_,rfl,⟨a,xs,rfl,l,b⟩,rfl⟩:=rs
  exact fin _ xs a b (.inr l) h
 .obtain⟨_,_,rfl,⟨_,rfl⟩,rfl⟩:=rs
  unfold wg at h;split at h
  .rename_i xs e
   obtain⟨c,h1,b⟩:=ra.lst e;exact fin _ c _ b (.inl h1) h
  .exact h.elim
 .exact h.elim
def Fi:aT:=λ_ A R=>R (.ref A.length) (A++[.dct []])
theorem wh{X:Cx}{N:En}{pos:Pos}:PE X (.Dict [] [] pos) (up X.mg N Fi):=dU U4 λσ H Q q=>by
 obtain⟨A,ι,τ,R,S,q,k⟩:=q;exact λp a=>Il (ds:=[]) (xs:=[]) k S.ra rfl q a
@[irreducible] def uL(r:Nat)(y v:D)(A:Ar)(R:Ar->Prop):Prop:=match A[r]?,f_ y with
 |some (.dct kvs),some k=>kvs.length<sizeLine/\R (A.set r (.dct (cQ kvs k v)))
 |_,_=>False
def JI(mo mi mv:aT):cT:=λR τ A=>mv τ A λv A1=>mo τ A1 λx A2=>mi τ A2 λy A3=>match x with
 |.ref r=>uL r y v A3 λA4=>R.nx τ A4
 |_=>False
theorem wz{X:Cx}{N:En}{pos pos':Pos}{o i value:Expr}{mo s t:aT}(Y:X.A.units+64<cLine)(D:PE X o (up X.mg N mo))(hi:PE X i (up X.mg N s))(F:PE X value (up X.mg N t))(G:swapsWith value (some (.Subscript o i pos')) pos.line X.env=pure false):
  PS X (.Assign [.Subscript o i pos'] value pos) (cK X.mg N (JI mo s t)):=i8 (VH ω D hi F G) λQ σ H q=>by
 obtain⟨A,ι,τ,R,S,q,k⟩:=q;refine⟨A,ι,τ,_,S,q,λv I j H1 w J b l K=>?_⟩;refine⟨I,j,τ,_,S.next b l,J,λx L m H2 u M d B v2=>?_⟩;refine⟨L,m,τ,_,(S.next b l).next d B,M,λy O P Z z a f g T=>?_⟩;have n:=RV.ext (d.trans f) v w K;have p:=RV.ext f x u v2;cases x with
 |ref r=>
  obtain⟨_,rfl⟩:=p;have a:uL r y v O (λU=>R.nx τ U):=a;unfold uL at a;split at a
  .rename_i kvs h e V
   obtain⟨xs,h1,h2⟩:=g.dct e;cases ny V T;refine⟨_,_,rfl,sq.k h1 (by rw[<-RK.length h2];exact a.1),?_⟩;have hl:=(bK.mp e).1;have E:=g.nc (o:=.dK (putK xs h w)) (c:=.dct (cQ kvs h v)) hl;obtain⟨W,C⟩:=g.put (c':=.dct (cQ kvs h v)) (o:=.dK (putK xs h w)) e h1 rfl ⟨_,dZ,by simpa using RK.ext E _ _ (RK.put n h2)⟩;exact(k.nx.from (((b.trans d).trans f).trans C)).here ((((S.next b l).next d B).next f g).next C W) a.2
  .exact a.elim
 |_=>exact a.elim
def B7:DX:=λ_ _=>False
theorem nD{X:Cx}{N:En}{P:Program}{w:World}:Passes (bU P w) X (EL X.mg N B7):=λae σ H s e s' I h=>by
 obtain⟨a,C,H',_,_,c,A',ι',_,_,_,z⟩:=h;exact z.elim
theorem HD{K:Frag}:∀t∈tys,kitOne K (.type t) (.type "bool")=some (nj t "bool"):=by
 intro t a;simp only[tys,bx,iR,iS] at a;rcases a with rfl|rfl|rfl|rfl|rfl|rfl|rfl<;>rfl
theorem HE{K:Frag}:∀t∈tys,kitOne K (.type t) (.type "int")=some (nj t "int"):=by
 intro t a;simp only[tys,bx,iR,iS] at a;rcases a with rfl|rfl|rfl|rfl|rfl|rfl|rfl<;>rfl
theorem BF{K:Frag}:∀t∈tys,kitOne K (.type t) (.type "str")=some (nj t "str"):=by
 intro t a;simp only[tys,bx,iR,iS] at a;rcases a with rfl|rfl|rfl|rfl|rfl|rfl|rfl<;>rfl
theorem kit_tuple{K:Frag}:∀t∈tys,kitOne K (.type t) (.type "tuple")=some (nj t "tuple"):=by
 intro t a;simp only[tys,bx,iR,iS] at a;rcases a with rfl|rfl|rfl|rfl|rfl|rfl|rfl<;>rfl
theorem cI{b:Bool}{X Y:Prop}(h1:b=true->X)(h2:b=false->Y):cond b X Y:=by
 cases b with
 |true=>exact h1 rfl
 |false=>exact h2 rfl
theorem cD{p:Prop}[Decidable p]{X Y:Prop}(h1:p->X)(h2:¬p->Y):cond (decide p) X Y:=cI (λe=>h1 (fu e)) λe=>h2 (of_decide_eq_false e)
theorem cN{p:Prop}[Decidable p]{X Y:Prop}(h1:¬p->X)(h2:p->Y):cond (!decide p) X Y:=cI (λe=>h1 (of_decide_eq_false (by simpa using e))) λe=>h2 (fu (by simpa using e))
def eK(t:Nat)(A A':Ar):Prop:=∀q c,q≠t->A[q]?=some c->A'[q]?=some c
theorem eK.refl{t:Nat}{A:Ar}:eK t A A:=λ_ _ _ h=>h
theorem eK.trans{t:Nat}{A B C:Ar}(a:eK t A B)(b:eK t B C):eK t A C:=λq c n h=>b q c n (a q c n h)
theorem eK.set{t:Nat}{A:Ar}{c:C}:eK t A (A.set t c):=λq d n h=>by rw[eF (Ne.symm n)];exact h
def Tw(t n:Nat)(A:Ar):Prop:=∃xs,A[t]?=some (.lst xs)/\xs.length<=n
theorem Tw.mono{t n m:Nat}{A:Ar}(h:Tw t n A)(l:n<=m):Tw t m A:=let ⟨xs,a,b⟩:=h;⟨xs,a,d7 b l⟩
theorem a4{A T:Ar}{q:Nat}{c:C}(h:A[q]?=some c):(A++T)[q]?=some c:=by
 have:=(bK.mp h).1;rw[iG this];exact h
def Gr(A A':Ar):Prop:=∃T,A'=A++T
theorem Gr.refl{A:Ar}:Gr A A:=⟨[],θ⟩
theorem Gr.push{A T:Ar}:Gr A (A++T):=⟨T,rfl⟩
theorem Gr.trans{A B C:Ar}(a:Gr A B)(b:Gr B C):Gr A C:=by
 obtain⟨T,rfl⟩:=a;obtain⟨c,rfl⟩:=b;exact⟨T++c,θ⟩
theorem Gr.get{A B:Ar}(a:Gr A B){q:Nat}{c:C}(h:A[q]?=some c):B[q]?=some c:=by
 obtain⟨T,rfl⟩:=a;exact a4 h
theorem Gr.but{A B:Ar}{t:Nat}(a:Gr A B):eK t A B:=λ_ _ _ h=>a.get h
theorem Tw.gr{A B:Ar}{t n:Nat}(h:Tw t n A)(a:Gr A B):Tw t n B:=let ⟨xs,x,y⟩:=h;⟨xs,a.get x,y⟩
def D3:Ct:=λds A R _=>∃ns k,ds=[.fl ns,.int k]/\0<=k/\∀i A',Gr A A'->R (.int i) A'
def Ed:Ct:=λds A R _=>∃ns k m,ds=[.fl ns,.int k,.int m]/\0<=k/\0<m/\∀i A',0<=i->i<m->Gr A A'->R (.int i) A'
def l9:Ct:=λds A R _=>∃ns t m n,ds=[.fl ns,.ref t,.int m]/\Tw t n A/\n<1000000/\0<m/\∀i A',0<=i->i<m->eK t A A'->Tw t (n+1) A'->R (.int i) A'
def sD:Ct:=λds A R _=>∃ns t q xs n,ds=[.fl ns,.ref t,.ref q]/\q≠t/\A[q]?=some (.lst xs)/\xs≠[]/\Tw t n A/\n<1000000/\∀x A',x∈xs->eK t A A'->Tw t (n+1) A'->R x A'
theorem vR{α:Type}{xs:List α}{k:Int}(h0:0<=k)(h:k<(xs.length:Int)):∃v,d9 xs k=some v/\v∈xs:=by
 have a:k.toNat<xs.length:=ω
 refine⟨xs[k.toNat],?_,jV a⟩;unfold d9 jq;rw[aB h0,aB h];simp[aS a]
theorem lay_ints:∀ns:Fn,canLayAll0 (ns.map PyData.int)=true
 |[]=>by simp[canLayAll0]
 |n::r=>by simp[canLayAll0,canLay0,lay_ints r]
theorem aN{A:Ar}{c:C}:(A++[c])[A.length]?=some c:=θ
theorem O2{ns:Fn}{A:Ar}{R:DK}(h:R (.bl (decide (ns=[]))) (A++[.lst []])):f6 false (.fl ns) (.ref A.length) (A++[.lst []]) R:=by
 unfold f6;have a:cW (A++[.lst []]) (.ref A.length)=.list []:=by unfold cW;simp only[aN];rfl
 have b:cW (A++[.lst []]) (.fl ns)=.list (ns.map PyData.int):=by unfold cW;rfl
 refine⟨rfl,?_,?_,?_,?_,?_⟩
 .unfold ju;simp only[aN];rfl
 .rw[b];simpa[canLay0] using lay_ints ns
 .rw[a];simp[canLay0,canLayAll0]
 .rw[a];simp[PyData.depth,depthAll];omega
 .rw[b,a]
  have e:PyData.eqv (.list (ns.map PyData.int)) (.list [])=decide (ns=[]):=by cases ns<;>simp[PyData.eqv,eqvAll]
  rw[av cC,e];exact h
section
variable{A:Ar}{r q t:Nat}{xs ys:Bi}{kvs:List (Key×D)}{R:DK}
theorem gn(h:A[r]?=some (.lst xs)):oR A (.ref r)=true:=by unfold oR;simp only[h]
theorem qv{y:D}(h:A[r]?=some (.lst xs))(a:xs.length<sizeLine)(k:R .aD (A.set r (.lst (xs++[y])))):vP r y A R:=by
 unfold vP;simp only[h];exact⟨a,k⟩
theorem qI(h:A[r]?=some (.lst xs))(h2:A[q]?=some (.lst ys))(a:xs.length+ys.length<=sizeLine)(k:R .aD (A.set r (.lst (xs++ys)))):tG r q A R:=by
 unfold tG;simp only[h,h2];exact⟨a,k⟩
theorem ow(h:A[r]?=some (.lst xs))(h2:A[q]?=some (.lst ys))(a:xs.length+ys.length<=sizeLine)(k:R (.ref A.length) (A++[.lst (xs++ys)])):vX r q A R:=by
 unfold vX;simp only[h,h2];exact⟨a,k⟩
theorem oV(h:A[r]?=some (.lst xs))(k:R (.int xs.length) A):xw r A R:=by
 unfold xw;simp only[h];exact k
theorem iN{i:Int}{v:D}(h:A[r]?=some (.lst xs))(hi:d9 xs i=some v)(k:R v A):kB r (.int i) A R:=by
 unfold kB;simp only[h,hi];exact k
theorem uY(h:A[r]?=some (.lst xs))(k:R (.tup xs) A):yS r A R:=by
 unfold yS;simp only[h];exact k
theorem S4(h:A[r]?=some (.lst xs))(k:R (.ref A.length) (A++[.lst xs])):xC r A R:=by
 unfold xC;simp only[h];exact k
theorem get_set(h:A[t]?=some (.lst xs)):(A.set t (.lst ys))[t]?=some (.lst ys):=by
 rw[eG (bK.mp h).1]
theorem bQ{c:C}(h:A[t]?=some c):t<A.length:=(bK.mp h).1
end
def Ww(Uq:Ap)(len i:Nat)(m:DX->cT)(th:cT):cT:=λR τ A=>m (λc A'=>c∈Uq/\th {nx:=λ_ _=>False,rt:=R.rt} ((replicate len none).set i (some (.exc c))) A') R τ A
theorem OP{X:Cx}{N:En}{D:Addr}{i:Nat}{n cn:Str}{b₀:Stmt}{suite body:FK}{m:DX->cT}{th:cT}{np hpos pos:Pos}(l:Ap)(hex:X.ex=[])(v:X.stack=X.env::X.outer)(x:X.env.frame=some X.env.locals)(L:X.N.Nodup)(hi:X.N[i]? =some n)(hl:X.env.scope.names.lookup n=some .local)(O:X.mg cn=some (.ref D))
  (ar:∀c C,c∈l->X.mg c=some (.ref C)->exmOne X.K (.ref C) (.ref D)=some true)
  (P:∀(M:En) (RE:DX) (pn:aZ) (E:aV),Passes (bU X.prog X.w) (X.tried pn E) (EL X.mg M RE)->dF (X.tried pn E) body (cK X.mg M (m RE)))(T:∀(M:En) (e:Addr),dF (X.mu e) (b₀::suite) (cK X.mg M th))
  (U:Gl X cn:=by rfl)(y:(cn==("__debug__":Str))=false:=by decide):
  PS X (.Try body [.ExceptHandler (some (.Name cn np)) (some n) (b₀::suite) hpos] [] [] pos) (cK X.mg N (Ww l X.N.length i m th)):=by
 intro ae s σ H Dn I q
 obtain⟨A,ι,τ,R,S,q,k⟩:=q
 refine VQ (tb:=λpn E G Q σ' H'=>∃RE:DX,(∀C a H',EL X.mg ⟨A,ι,H⟩ RE C a H'->G C none H')/\cK X.mg ⟨A,ι,H⟩ (m RE) Q σ' H') (th:=cK X.mg ⟨A,ι,H⟩ th) hex v x L hi hl O (λpn E G V=> ?_) (T ⟨A,ι,H⟩) U y ae s σ H Dn I ?_
 .intro g s' σ' H' Q W z
  obtain⟨RE,Y,z⟩:=z
  exact P ⟨A,ι,H⟩ RE pn E (λae σ H1 Z e s' I z=>V ae σ H1 Z e s' I (by
   obtain⟨a,C,H2,h1,h2,h3⟩:=z
   exact⟨a,C,H2,h1,h2,Y _ _ _ h3⟩)) g s' σ' H' Q W z
 .intro pn E
  refine⟨_,λC a0 H' z=> ?_,A,ι,τ,R,⟨S.ra,S.rs,S.ra.refl⟩,q,k⟩
  obtain⟨c,A',ι',⟨u,rfl,hc⟩,e,r,B,ht⟩:=z
  refine⟨u,rfl,ar c u B hc,λa σ' f J=> ?_⟩
  have F:=r.tH (o:=qG a u) J
  have r1:=r.fix F λb o z=>by rw[aY (di z J)];exact z
  refine⟨A',ι',_,_,⟨r1,⟨by simp[f],λj d h=> ?_⟩,e.trans F⟩,ht,⟨λ_ _ _ _ _ z _ _ _=>z.elim,k.rt.from (e.trans F),λ_ _ _ _ _ z _ _ _=>z.elim,λ_ _ _ _ _ z _ _ _=>z.elim⟩⟩
  by_cases p:j=i
  .subst p
   by_cases t:j<X.N.length
   .rw[BU _ _ _ (by simpa using t)] at h
    cases h
    exact⟨.ref a,by rw[eG (by rw[f];exact t)],a,u,rfl,hc,dZ⟩
   .rw[List.set_eq_of_length_le (by simp;omega),qT,nX (by simp;omega)] at h
    cases h
  .rw[BS _ _ _ _ p,qT,zx] at h
   split at h<;>simp at h
open MA
abbrev M:=cu Str
abbrev _root_.Fm:=List M
noncomputable def enc:M->D
 |.wt n=>.tup [.str "weight",.str n]
 |.eZ l r a b=>.tup [.str "rod",.int l,.int r,enc a,enc b]
theorem ic{k:Option Nat}{fr:bL}{te:aT}{a:Ar->Prop}{R:Bi->Ar->Prop}{A:Ar}(hc:a A)(f:D->D):∀(items ys:Bi),(∀x∈items,∃vs,mF k x=some vs/\∀Q:DK,Q (f x) A->te (vs.map some++fr) A Q)->ys.length+items.length<=sizeLine->R (ys++items.map f) A->jG a k fr mE te R items ys A
 |[],ys,_,_,h=>⟨hc,by simpa using h⟩
 |x::xs,ys,b,hl,h=>by
  obtain⟨vs,c,d⟩:=b x (bw ..);refine⟨hc,?_⟩;rw[c];refine d _ ⟨by simp at hl;omega,ic hc f xs (ys++[f x]) (λy e=>b y (bq _ e)) (by simp at hl ⊢;omega) (by simpa using h)⟩
theorem qx{α:Type}(f:α->Bool):∀xs:List α,h_ (xs.map λx=>D.bl (f x))=some (xs.map f)
 |[]=>rfl
 |x::r=>by simp[h_,qx f r]
theorem strs_map{α:Type}(f:α->Str):∀xs:List α,lH (xs.map λx=>D.str (f x))=some (xs.map f)
 |[]=>rfl
 |x::r=>by simp[lH,strs_map f r]
theorem vO{A:Ar}{r:Nat}{xs:Bi}{bs:FC}{R:DK}(h:A[r]?=some (.lst xs))(a:h_ xs=some bs)(k:R (.bl (bs.all id)) A):allR r A R:=by
 unfold allR;simp only[h,a];exact k
theorem Lc{A:Ar}{r:Nat}{xs:Bi}{ss:Ap}{R:DK}(h:A[r]?=some (.lst xs))(a:lH xs=some ss)(h2:ss.length<64)(k:∀ys:Ap,ys.Pairwise strLt->(∀x,x∈ys↔x∈ss)->R (.ref A.length) (A++[.lst (ys.map D.str)])):uU r A R:=by
 unfold uU;simp only[h,a];exact⟨h2,k⟩
theorem dB{A:Ar}{r:Nat}{xs:Bi}{R:Bi->(Ar->Prop)->Ar->Prop}(h:A[r]?=some (.lst xs))(k:R xs (λA'=>A'[r]?=some (.lst xs)) A):itR r A R:=by
 unfold itR;simp only[h];exact k
structure Nm(n:Str):Prop where
 lo:1<=n.length
 hi:n.length<=3
 az:∀c∈n.cps.toList,97<=c/\c<=122
structure Wf(m:M):Prop where
 arms:m.arms
 nm:∀n∈m.names,Nm n
def SV(dom:Bi->D->Prop):Ct:=λds A R _=>∃v,dom ds v/\∀A',Gr A A'->R v A'
def SL(dom:Bi->Bi->Prop):Ct:=λds A R _=>∃v,dom ds v/\∀A' r,Gr A A'->A'[r]?=some (.lst v)->R (.ref r) A'
abbrev Ej:Ct:=SV λds v=>∃i a b,ds=[.int i,.int a,.int b]/\v=.bl (decide (a<=i)&&decide (i<=b))
abbrev Eg:Ct:=SV λds v=>∃n,ds=[.str n]/\Nm n/\v=.bl true
abbrev D9(d:Nat):Ct:=SV λds v=>∃m,ds=[enc m,.int ((d:Int) - 1)]/\Wf m/\m.deep<d/\v=.bl true
abbrev zW:Ct:=SV λds v=>∃m,ds=[enc m]/\Wf m/\m.deep<=5/\v=.bl true
abbrev D5:Ct:=SV λds v=>∃m,ds=[enc m]/\Wf m/\m.deep<=5/\v=.aD
theorem tK{P:Program}{w:World}{K:Frag}{mg:ay}{base:Heap}{x:Str}{st:Stmt}{ps:Ap}{k n:Nat}{S:Ct}(T:TopD K mg x st ps)(no:∀ds A R RE,¬S ds A R RE):aC P w K mg base k x ps (aA mg n S):=by
 obtain⟨f,fd,F,b,m⟩:=T;have a:∀vs H Q E,¬aA mg n S vs H Q E:=λvs H Q E h=>by
  obtain⟨A,ι,ds,R,RE,_,_,_,z,_⟩:=h;exact no _ _ _ _ z
 exact⟨f,fd,⟨λvs H Q E h=>absurd h (a vs H Q E),λA outer s H args c vs Q E _ _ _ _ h=>absurd h (a vs H Q E)⟩,b,F.kp,m⟩
noncomputable def aR(r:Str×Int):D:=.tup [.str r.1,.int r.2]
def dY(rs:List (Str×Int)):D:=.tup (rs.map aR)
def gD(rs:List (Str×Int)):List (Key×D):=rs.map λr=>(Sum.inr r.1,.int r.2)
structure j_(rs:List (Str×Int)):Prop where
 nm:∀r∈rs,Nm r.1
 no:∀r∈rs,1<=r.2/\r.2<=999999
 up:(rs.map (·.1)).Pairwise strLt
 len:rs.length<64
def val(rs:List (Str×Int))(n:Str):Int:=((rs.find? λr=>r.1=n).map (·.2)).getD 0
theorem uV{a b:Str}(h:strLt a b):a≠b:=λe=>by
 subst e;exact kP _ h
theorem Bk:∀(rs:List (Str×Int)) (n:Str),n∈rs.map (·.1)->bA (gD rs) (Sum.inr n)=some (.int (val rs n))
 |[],n,h=>by simp at h
 |r::rs,n,h=>by
  unfold gD bA val;by_cases e:r.1=n
  .simp[e]
  .have h':n∈rs.map (·.1):=by
    rcases bx.mp (show n∈r.1::rs.map (·.1) from h) with q|q
    .exact absurd q.symm e
    .exact q
   have a:¬(Sum.inr r.1:Key)=Sum.inr n:=λz=>e (Sum.inr.inj z);have:=Bk rs n h';simp only[cM,a,gS,lQ,e,decide_false];exact this
theorem Ja{kvs:List (Key×D)}{k:Key}{v:D}(h:∀p∈kvs,p.1≠k):cQ kvs k v=kvs++[(k,v)]:=by
 unfold cQ;rw[av];intro z;obtain⟨p,a,e⟩:=jZ.mp z;exact h p a (fu e)
theorem I9:∀(rs:List (Str×Int)) (acc:List (Key×D)),(rs.map (·.1)).Pairwise strLt->(∀p∈acc,∀r∈rs,p.1≠Sum.inr r.1)->(gD rs).foldl (λacc p=>cQ acc p.1 p.2) acc=acc++gD rs
 |[],acc,_,_=>by simp[gD]
 |r::rs,acc,f,c=>by
  have b:=iC.mp (show(r.1::rs.map (·.1)).Pairwise strLt from f);have e:cQ acc (Sum.inr r.1) (.int r.2)=acc++[(Sum.inr r.1,.int r.2)]:=Ja λp a=>c p a r (bw ..);show(gD rs).foldl _ (cQ acc (Sum.inr r.1) (.int r.2))=_;rw[e,I9 rs _ b.2]
  .simp[gD]
  .intro p a q d
   rcases bR.mp a with z|z
   .exact c p z q (bq _ d)
   .have g:p=(Sum.inr r.1,.int r.2):=by simpa using z
    subst g;exact λe=>uV (b.1 q.1 (cZ d)) (Sum.inr.inj e)
theorem IF:∀rs:List (Str×Int),fR (rs.map aR)=some (gD rs)
 |[]=>rfl
 |r::rs=>by
  have:=IF rs;simp only[cM,aR,fR,f_,this,gD]
noncomputable def nB:M->Str->List (Str×Str)
 |.wt n,w=>[(w,n)]
 |.eZ _ _ a b,w=>nB a (w++"l")++nB b (w++"r")
theorem uh:∀(m:M) (w:Str),(nB m w).map (·.2)=m.names
 |.wt n,w=>rfl
 |.eZ _ _ a b,w=>by
  show List.map _ (_++_)=a.names++b.names;rw[c_,uh a,uh b]
theorem xD(m:M)(w:Str):(nB m w).length=m.names.length:=by rw[<-uh m w,aM]
noncomputable def BY(p:Str×Str):D:=.tup [.str p.1,.str p.2]
abbrev zX(d:Nat):Ct:=SL λds v=>∃m w,ds=[enc m,.str w]/\m.deep<d/\w.length+d<=100/\d<=8/\v=(nB m w).map BY
theorem vZ{k:Option Nat}{fr:bL}{te:aT}{a:Ar->Prop}{R:Bi->Ar->Prop}(f:D->D):∀(items ys:Bi) (A:Ar),(∀A',Gr A A'->a A')->(∀x∈items,∀A',Gr A A'->∃vs,mF k x=some vs/\∀Q:DK,(∀b,Gr A' b->Q (f x) b)->te (vs.map some++fr) A' Q)->ys.length+items.length<=sizeLine->(∀A',Gr A A'->R (ys++items.map f) A')->jG a k fr mE te R items ys A
 |[],ys,A,hc,_,_,h=>⟨hc A Gr.refl,by simpa using h A Gr.refl⟩
 |x::xs,ys,A,hc,d,hl,h=>by
  obtain⟨vs,e,i⟩:=d x (bw ..) A Gr.refl;refine⟨hc A Gr.refl,?_⟩;rw[e];refine i _ λj c=>⟨by simp at hl;omega,vZ f xs (ys++[f x]) j (λA' g=>hc A' (c.trans g)) (λy l A' g=>d y (bq _ l) A' (c.trans g)) (by simp at hl ⊢;omega) (λA' g=>by simpa using h A' (c.trans g))⟩
theorem Nm.ok{n:Str}(h:Nm n):canLay0 (.str n)=true:=by
 have e:n.cps.all (λc=>decide (c<0x110000))=true:=by
  rw[<-Array.all_toList,nP];intro c hc;have:=h.az c hc;exact dg ω
 simpa[canLay0,PyData.strOk] using e
theorem yy:∀a:Ap,gb (a.map D.str)=true
 |[]=>rfl
 |s::r=>by simp[gb,fS,yy r]
theorem yC:∀a:Ap,bF (a.map D.str)=a.map PyData.str
 |[]=>rfl
 |s::r=>by simp[bF,toQ,yC r]
theorem ue:∀b:Ap,(∀n∈b,Nm n)->canLayAll0 (b.map PyData.str)=true
 |[],_=>by simp[canLayAll0]
 |s::r,h=>by
  have h1:=(h s (bw ..)).ok;have h2:=ue r λn a=>h n (bq _ a);simp[canLayAll0,h1,h2]
theorem FJ:∀a:Ap,depthAll (a.map PyData.str)=0
 |[]=>by simp[depthAll]
 |s::r=>by simp[depthAll,PyData.depth,FJ r]
theorem Gf:∀a ts:Ap,eqvAll (a.map PyData.str) (ts.map PyData.str)=decide (a=ts)
 |[],[]=>by simp[eqvAll]
 |[],_::_=>by simp[eqvAll]
 |_::_,[]=>by simp[eqvAll]
 |s::r,t::u=>by
  simp only[cM,eqvAll,PyData.eqv,Gf r u];by_cases h1:s=t
  .by_cases h2:r=u<;>simp[h1,h2]
  .simp[h1]
theorem O4{A:Ar}{r q:Nat}{ss ts:Ap}{R:DK}(h1:A[r]?=some (.lst (ss.map D.str)))(h2:A[q]?=some (.lst (ts.map D.str)))(n1:∀n∈ss,Nm n)(n2:∀n∈ts,Nm n)(k:R (.bl (decide (ss=ts))) A):f6 false (.ref r) (.ref q) A R:=by
 have a:cW A (.ref r)=.list (ss.map PyData.str):=by unfold cW;simp only[h1,yC]
 have b:cW A (.ref q)=.list (ts.map PyData.str):=by unfold cW;simp only[h2,yC]
 unfold f6;rw[a,b];refine⟨by unfold ju;simp only[h1,yy],by unfold ju;simp only[h2,yy],by simpa[canLay0] using ue ss n1,by simpa[canLay0] using ue ts n2,by simp[PyData.depth,FJ],?_⟩;rw[av cC];show R (.bl (PyData.eqv (.list _) (.list _))) A;rw[show PyData.eqv (.list (ss.map PyData.str)) (.list (ts.map PyData.str))=decide (ss=ts) by simp only[PyData.eqv,Gf]];exact k
theorem gC{A:Ar}{r:Nat}{kvs:List (Key×D)}{y v:D}{k:Key}{R:DK}(h:A[r]?=some (.dct kvs))(a:f_ y=some k)(b:bA kvs k=some v)(q:R v A):kB r y A R:=by
 unfold kB;simp only[h,a,b];exact q
theorem oQ{A:Ar}{r:Nat}{kvs:List (Key×D)}{y:D}{k:Key}{R:DK}{neg:Bool}(h:A[r]?=some (.dct kvs))(a:f_ y=some k)(q:R (.bl (if neg then !(bA kvs k).isSome else (bA kvs k).isSome)) A):inR neg y r A R:=by
 unfold inR;simp only[h,a];exact q
def rd(a b:Int):Int×Int:=(a/(Int.gcd a b:Int),b/(Int.gcd a b:Int))
abbrev zT:Ct:=SV λds v=>∃a b:Int,ds=[.int a,.int b]/\0<=a/\0<=b/\v=.int (Int.gcd a b:Int)
abbrev vM:Ct:=SV λds v=>∃a b:Int,ds=[.int a,.int b]/\0<a/\0<b/\a<2 ^ 2000/\v=.tup [.int (rd a b).1,.int (rd a b).2]
theorem Gr.len{A B:Ar}(a:Gr A B):A.length<=B.length:=by
 obtain⟨T,rfl⟩:=a;simp
structure Dr(t:Nat)(A A':Ar)(n k:Nat):Prop where
 but:eK t A A'
 tw:Tw t (n+k) A'
def bX(K:Frag)(mg:ay)(cv:Value)(kc:Str->Option Bool):Prop:=∀c C b,kc c=some b->mg c=some (.ref C)->n9 K C/\kitOne K (.ref C) cv=some b
def Av(kc:Str->Option Bool)(m:aT):aT:=λτ A R=>m τ A λv A1=>match v with
 |.exc c=>(match kc c with
  |some b=>R (.bl b) A1
  |none=>False)
 |_=>False
section
variable{e:Expr}{m:aT}{p p2 pos:Pos}{x:Str}{kc:Str->Option Bool}
theorem Lz{y:V}{e:Value}(f:∀u,RelV y u->u=e)(g:bX X.K X.mg e kc){σ:St}{H:Hp}{Q:VK}(q:up X.mg N (Av kc m) σ H Q):up X.mg N m σ H (λv H'=>∃(a:Addr) (z:V) (C:Addr) (c:Value) (b:Bool),[v,y]=[.ref a,z]/\(∀u,RelV z u->u=c)/\H' a=some (qG a C)/\n9 X.K C/\kitOne X.K (.ref C) c=some b/\Q (.bl b) H'):=by
 obtain⟨A,ι,τ,R,S,q,k⟩:=q;refine⟨A,ι,τ,_,S,q,λv h i H1 u d j l n=>?_⟩;cases v with
 |exc c=>
  obtain⟨a,C,rfl,hc,o⟩:=n;have d:(match kc c with|some b=>R (.bl b) h|none=>False):=d;split at d
  .rename_i b p
   obtain⟨r,s⟩:=g c C b p hc;exact⟨a,y,C,e,b,rfl,f,o,r,s,(k.from j).here l d rfl⟩
  .exact d.elim
 |_=>exact d.elim
theorem m6{D:Addr}(d:X.mg "isinstance"=none)(f:X.mg x=some (.ref D))(g:bX X.K X.mg (.ref D) kc)(h:PE X e (up X.mg N m))(i:Gl X "isinstance":=by rfl)(a:Gl X x:=by rfl)(b:(x==("__debug__":Str))=false:=by decide)
  (c:starEach [e,.Name x p2] X.env=[(false,eval e X.env),(false,eval (.Name x p2) X.env)]:=by rfl):
  PE X (.Call (.Name "isinstance" p) [e,.Name x p2] [] pos) (up X.mg N (Av kc m)):=by
 have j:PE X (.Name x p2) (tC (.ref D)):=IP a f rfl b;exact dU (yw EZ i d boot_isinstance (pC h (pC j yu rfl) (by rw[c];rfl)) δ δ (by rw[c];rfl) rfl) λσ H Q q=>Lz (y:=.ref D) (λ_ r=>r) g q
theorem Ol{c:String}(h:X.mg "isinstance"=none)(a:X.mg x=none)(b:bootBuiltins x=some (.type c))(i:bX X.K X.mg (.type c) kc)(j:PE X e (up X.mg N m))(k:Gl X "isinstance":=by rfl)(d:Gl X x:=by rfl)(l:x≠"__name__":=by decide)(f:(x==("__debug__":Str))=false:=by decide)
  (g:starEach [e,.Name x p2] X.env=[(false,eval e X.env),(false,eval (.Name x p2) X.env)]:=by rfl):
  PE X (.Call (.Name "isinstance" p) [e,.Name x p2] [] pos) (up X.mg N (Av kc m)):=by
 have n:PE X (.Name x p2) (tC (.ty c)):=IK d a b rfl l f;exact dU (yw EZ k h boot_isinstance (pC j (pC n yu rfl) (by rw[g];rfl)) δ δ (by rw[g];rfl) rfl) λσ H Q q=>Lz (y:=.ty c) (λ_ r=>r) i q
end
section
variable{k n:Nat}{x:Str}{ps:Ap}{S:Ct}{e:Expr}{es:DD}{m:dD}{p pos:Pos}
theorem Oi(F:qm X.prog X.w X.K X.mg X.base k x ps (aA X.mg n S))(g:lZ k X.A)(h:PA X (e::es) (fU X.mg N m))(i:Gl X x:=by rfl)(a:(x==("__debug__":Str))=false:=by decide)
  (j:starEach (e::es) X.env=(false,eval e X.env)::starEach es X.env:=by rfl)(b:(backTo pos (starEach es X.env)).any (·.1)=false:=by rfl):
  PE X (.Call (.Name x p) (e::es) [] pos) (up X.mg N (iK n S (λ_ _=>False) m)):=dU (UX F g h i a j b) λσ H Q q=>by
 obtain⟨A,ι,τ,R,Z,q,k⟩:=q;refine⟨A,ι,τ,_,Z,q,λvs l d H1 o f r s t=>?_⟩;show aA X.mg n S (o++[]) H1 Q E0;rw[lN];exact⟨l,d,vs,R,_,f.1,s,t,f.2,k.from r,λc y u H2 C v hc z B=>v.elim⟩
end
theorem Qp{P:Program}{w:World}{K:Frag}{mg:ay}{base:Heap}{x:Str}{st:Stmt}{Nm ps:Ap}{k n:Nat}{S:Ct}(T:TopD K mg x st ps)(Sc:bB Nm ps (aO st))(o:ps.length=n)(C:ps.length<=Nm.length)
  (b:∀(N:En) (f:Addr) (a:Value) (B:Around) (outer:Fh) (s:Shared) (H:Hp) (E:XK),lZ k (B.deeper (envOfC x (aO st) s.heap.objs.size f a))->
   ∀ds A R RE,S ds A R RE->ds.length=n->∃m,dF ((cU qi P w K mg base Nm x (aO st) f a {B with handled:=Option.none} outer s H E).loud (B.deeper (envOfC x (aO st) s.heap.objs.size f a))) (ir st) (cK mg N m)/\m {nx:=λ_ A'=>R .aD A',rt:=R} (kI (Nm.length - n) ds) A):qm P w K mg base (k+1) x ps (aA mg n S):=by
 refine T.Qo Sc (λvs H Q E h=>?_) λf a A outer s H vs Q E p h=>?_
 .obtain⟨A,ι,ds,R,RE,hl,_,g,_⟩:=h
  rw[<-aj.length g,hl,o]
 .obtain⟨j,c,ds,R,RE,hl,ra,g,t,l,D⟩:=h
  obtain⟨m,u,y⟩:=b ⟨j,c,H⟩ f a A outer s H E p ds j R RE t hl;have z:=aj.length g;refine⟨_,u,j,c,_,_,⟨ra,⟨?_,λi d q=>?_⟩,ra.refl⟩,y,⟨λτ A' ι' σ H' q e r _=>l _ A' ι' H' _ q e r rfl,l,λ_ _ _ _ _ q _ _ _=>q.elim,λ_ _ _ _ _ q _ _ _=>q.elim⟩⟩
  .simp[kI,L2.start]
   omega
  .obtain⟨v,h1,h2⟩:=aj.get g (xx ds _ i d q)
   refine⟨v,?_,h2⟩;have hi:=(bK.mp h1).1;unfold L2.start;rw[iG (by simpa using hi),bz,h1];rfl
@[irreducible] def v8(r:Nat)(b:Bool)(A:Ar)(R:DK):Prop:=match A[r]? with
 |some (.lst xs)=>(match h_ xs with
  |some bs=>R (.int (bs.countP (·==b):Nat)) A
  |none=>False)
 |_=>False
def E8:iX:=λx vs A R=>match x,vs with
 |.ref r,[.bl b]=>v8 r b A R
 |_,_=>False
theorem NT{mg:ay}{K:Frag}:j9 mg K "list" Jg E8:=by
 intro x ds A ι H u d R Q ra a rs h k;unfold E8 at h;split at h
 .obtain⟨_,rfl⟩:=a
  obtain⟨v,_,rfl,rfl,rfl⟩:=rs;unfold v8 at h;split at h
  .rename_i xs e
   obtain⟨ws,h1,b⟩:=ra.lst e;split at h
   .rename_i bs c
    cases sM c b;exact⟨_,bs,_,rfl,rfl,h1,k.here ra h rfl⟩
   .exact h.elim
  .exact h.elim
 .exact h.elim
@[irreducible] def wX(r:Nat)(b:Bool)(A:Ar)(R:DK):Prop:=match A[r]? with
 |some (.lst xs)=>(match h_ xs with
  |some bs=>∃j:Nat,bs[j]?=some b/\(∀m c,m<j->bs[m]?=some c->c≠b)/\R (.int (j:Nat)) A
  |none=>False)
 |_=>False
def Hq:iX:=λx vs A R=>match x,vs with
 |.ref r,[.bl b]=>wX r b A R
 |_,_=>False
theorem N1{mg:ay}{K:Frag}:j9 mg K "list" Jl Hq:=by
 intro x ds A ι H u i R Q ra a rs h k;unfold Hq at h;split at h
 .obtain⟨_,rfl⟩:=a
  obtain⟨v,_,rfl,rfl,rfl⟩:=rs;unfold wX at h;split at h
  .rename_i xs e
   obtain⟨ws,h1,b⟩:=ra.lst e;split at h
   .rename_i bs c
    cases sM c b;obtain⟨j,d,f,g⟩:=h;exact⟨_,bs,_,j,rfl,rfl,h1,d,f,k.here ra g rfl⟩
   .exact h.elim
  .exact h.elim
 .exact h.elim
theorem E_{A:Ar}{r:Nat}{xs:Bi}{bs:FC}{b:Bool}{R:DK}(h:A[r]?=some (.lst xs))(a:h_ xs=some bs)(k:R (.int (bs.countP (·==b):Nat)) A):v8 r b A R:=by
 unfold v8;simp only[h,a];exact k
theorem Hr{A:Ar}{r:Nat}{xs:Bi}{bs:FC}{b:Bool}{R:DK}(j:Nat)(h:A[r]?=some (.lst xs))(a:h_ xs=some bs)(h1:bs[j]?=some b)(h2:∀m c,m<j->bs[m]?=some c->c≠b)(k:R (.int (j:Nat)) A):wX r b A R:=by
 unfold wX;simp only[h,a];exact⟨j,h1,h2,k⟩
theorem Ik{A:Ar}{p:Nat}{xs:Bi}{R:DK}(h:A[p]?=some (.lst xs))(c:gb xs=true)(hl:canLayAll0 (bF xs)=true)(k:R (.bl (!decide (xs=[]))) (A++[.lst []])):f6 true (.ref p) (.ref A.length) (A++[.lst []]) R:=by
 unfold f6;have b:cW (A++[.lst []]) (.ref p)=.list (bF xs):=by unfold cW;simp only[a4 h]
 have a:cW (A++[.lst []]) (.ref A.length)=.list []:=by unfold cW;simp only[aN];rfl
 refine⟨?_,?_,?_,?_,?_,?_⟩
 .unfold ju;simp only[a4 h];exact c
 .unfold ju;simp only[aN];rfl
 .rw[b];simpa[canLay0] using hl
 .rw[a];simp[canLay0,canLayAll0]
 .rw[a];simp[PyData.depth,depthAll];omega
 .rw[b,a]
  have e:PyData.eqv (.list (bF xs)) (.list [])=decide (xs=[]):=by cases xs<;>simp[bF,PyData.eqv,eqvAll]
  rw[aB rfl,e];exact k
theorem Al{α:Type}{k:Option Nat}{fr:bL}{tt:fH}{te:aT}{d:Ar->Prop}{R:Bi->Ar->Prop}(g:α->D)(p:α->Bool)(f:α->D):∀(xs:List α) (ys:Bi) (A:Ar),(∀a,Gr A a->d a)->(∀x∈xs,∀a,Gr A a->∃vs,mF k (g x)=some vs/\(∀Q:Bool->Ar->Prop,(∀b,Gr a b->Q (p x) b)->tt (vs.map some++fr) a Q)/\∀b,Gr a b->∀Q:DK,(∀e,Gr b e->Q (f x) e)->te (vs.map some++fr) b Q)->ys.length+xs.length<=sizeLine->(∀a,Gr A a->R (ys++(xs.filter p).map f) a)->jG d k fr tt te R (xs.map g) ys A
 |[],ys,A,hc,_,_,h=>⟨hc A Gr.refl,by simpa using h A Gr.refl⟩
 |x::xs,ys,A,hc,i,hl,h=>by
  obtain⟨vs,n,o,q⟩:=i x (bw ..) A Gr.refl;refine⟨hc A Gr.refl,?_⟩;rw[n];simp at hl;refine o _ λb c=>?_;cases m:p x with
  |true=>
   rw[Dm m] at h;exact q b c _ λe j=>⟨ω,Al g p f xs (ys++[f x]) e (λa z=>hc a ((c.trans j).trans z)) (λy l a z=>i y (bq _ l) a ((c.trans j).trans z)) (by simp;omega) λa z=>by simpa using h a ((c.trans j).trans z)⟩
  |false=>
   rw[Dl (by simp[m])] at h;exact Al g p f xs ys b (λa z=>hc a (c.trans z)) (λy l a z=>i y (bq _ l) a (c.trans z)) ω λa z=>h a (c.trans z)
theorem Gr.set{A B:Ar}{r:Nat}{c:C}(g:Gr A B)(h:A.length<=r):Gr A (B.set r c):=by
 obtain⟨T,rfl⟩:=g;exact⟨T.set (r - A.length) c,by rw[List.set_append_right _ _ h]⟩
theorem aj.of_get{mg:ay}{ι:Io}{H:Hp}{n:Nat}:∀{ds:Bi} {vs:Bn},ds.length=vs.length->(∀(i:Nat) d v,ds[i]?=some d->vs[i]?=some v->RV mg ι n H d v)->aj mg ι n H ds vs
 |[],[],_,_=>rfl
 |[],_::_,h,_=>by cases h
 |_::_,[],h,_=>by cases h
 |d::ds,v::vs,h,k=>⟨v,vs,rfl,k 0 d v rfl rfl,aj.of_get (by simpa using h) λi d v h1 h2=>k (i+1) d v (by simpa using h1) (by simpa using h2)⟩
theorem RA.AX{mg:ay}{A:Ar}{ι:Io}{H H':Hp}(R:RA mg ι H A)(g:g_ H H'):Ext A ι H A ι H':=⟨aJ _,λ_ _=>rfl,R.im,λb u h _=>g b u h,λr h1 h2=>absurd h2 ω,λb u h=>⟨u,g b u h⟩⟩
@[irreducible] def uZ(a b:Nat)(A:Ar)(R:DK):Prop:=match A[a]?,A[b]? with
 |some (.lst xs),some (.lst ys)=>R (.tup ((xs.zip ys).map λp=>.tup [p.1,p.2])) A
 |_,_=>False
def NQ(n:dD):aT:=λτ A R=>n τ A λvs A1=>match vs with
 |[.ref a,.ref b]=>uZ a b A1 R
 |_=>False
theorem Ou{X:Cx}{N:En}{a b:Expr}{n:dD}{P p2 g e:Pos}(u:X.mg "tuple"=none)(v:X.mg "zip"=none)(hc:X.calm=true)(T:PA X [a,b] (fU X.mg N n))(w:Gl X "tuple":=by rfl)(z:Gl X "zip":=by rfl)
  (U:starEach [a,b] X.env=[(false,eval a X.env),(false,eval b X.env)]:=by rfl)(B:starEach [b] X.env=[(false,eval b X.env)]:=by rfl)
  (hz:starEach [.Call (.Name "zip" p2) [a,b] [] e] X.env=[(false,eval (.Call (.Name "zip" p2) [a,b] [] e) X.env)]:=by rfl):
  PE X (.Call (.Name "tuple" P) [.Call (.Name "zip" p2) [a,b] [] e] [] g) (up X.mg N (NQ n)):=
 dU (Vf w u lO z v η hc T U B hz) λσ H Q q=>by
  obtain⟨A,ι,τ,R,S,q,k⟩:=q
  refine⟨A,ι,τ,_,S,q,λvs K C H1 us f V r s=> ?_⟩
  match vs,f,s with
  |[.ref x,.ref y],f,s=>
   obtain⟨_,_,rfl,⟨_,rfl⟩,_,_,rfl,⟨_,rfl⟩,rfl⟩:=s
   have f:uZ x y K R:=f
   unfold uZ at f
   split at f
   .rename_i ds es W Y
    obtain⟨xs,h1,L⟩:=r.lst W
    obtain⟨ys,h2,M⟩:=r.lst Y
    refine⟨_,_,xs,ys,rfl,bf.of h1,bf.of h2,λl H' ps sm hl Z h j=> ?_⟩
    have E:=r.AX sm
    refine k _ K C H' _ f (V.trans E) (r.fix E sm) ⟨l,ps,rfl,Z,aj.of_get ?_ λi d p hd D=> ?_⟩
    .rw[h,aM,length_zip,aj.length L,aj.length M]
    .obtain⟨t,O,F,rfl,hx,hy,ht⟩:=j i p D
     rw[bz] at hd
     cases c:(ds.zip es)[i]? with
     |none=>rw[c] at hd;cases hd
     |some pr=>
      rw[c] at hd
      cases hd
      have G:ds[i]? =some pr.1:=by
       rw[sj] at c
       exact c.1
      have hd2:es[i]? =some pr.2:=by
       rw[sj] at c
       exact c.2
      obtain⟨s,m,I⟩:=aj.get L G
      obtain⟨v2,o,J⟩:=aj.get M hd2
      rw[hx] at m
      rw[hy] at o
      cases m
      cases o
      exact⟨t,[O,F],rfl,ht,O,[F],rfl,RV.ext E _ _ I,F,[],rfl,RV.ext E _ _ J,rfl⟩
   .exact f.elim
@[irreducible] def yI(r:Nat)(A:Ar)(R:DK):Prop:=match A[r]? with
 |some (.dct kvs)=>∃ns:Ap,kvs.map (·.1)=ns.map Sum.inr/\ns.Nodup/\ns.length<64/\∀ys:Ap,ys.Pairwise strLt->(∀x,x∈ys↔x∈ns)->R (.ref A.length) (A++[.lst (ys.map D.str)])
 |_=>False
def KU:iW:=λvs A R=>match vs with
 |[.ref r]=>yI r A R
 |_=>False
theorem RK.keys{mg:ay}{ι:Io}{H:Hp}{n:Nat}:∀{ds:List (Key×D)} {vs:List (Key×V)},RK mg ι n H ds vs->vs.map (·.1)=ds.map (·.1)
 |[],vs,h=>by have h':vs=[]:=h;rw[h'];rfl
 |d::ds,vs,h=>by
  obtain⟨x,r,rfl,_,a⟩:=h;simp[RK.keys a]
theorem Og{mg:ay}:jl mg (λxs H Q=>∃(d:Addr) (kvs:List (Key×V)) (ns:Ap),xs=[.ref d]/\H d=some (.dK kvs)/\kvs.map (·.1)=ns.map Sum.inr/\ns.Nodup/\ns.length<64/\
  ∀(l:Addr) (ys:Ap),H l=none->ys.Pairwise strLt->(∀x,x∈ys↔x∈ns)->Q (.ref l) (ax H l (.lst (ys.map V.str)))) KU:=by
 intro ds A ι H j R Q ra rs h k;unfold KU at h;split at h
 .obtain⟨_,_,rfl,⟨_,rfl⟩,rfl⟩:=rs
  unfold yI at h;split at h
  .rename_i kvs e
   obtain⟨ns,h1,h2,a,b⟩:=h;obtain⟨xs,c,f⟩:=ra.dct e;exact⟨_,xs,ns,rfl,c,by rw[RK.keys f,h1],h2,a,λl ys hl g i=>kF k ra (aj.strs ys) (b ys g i) hl⟩
  .exact h.elim
 .exact h.elim
theorem Xf{A:Ar}{r:Nat}{kvs:List (Key×D)}{ns:Ap}{R:DK}(h:A[r]?=some (.dct kvs))(b:kvs.map (·.1)=ns.map Sum.inr)(c:ns.Nodup)(a:ns.length<64)(k:∀ys:Ap,ys.Pairwise strLt->(∀x,x∈ys↔x∈ns)->R (.ref A.length) (A++[.lst (ys.map D.str)])):yI r A R:=by
 unfold yI;simp only[h];exact⟨ns,b,c,a,k⟩
theorem YE{A:Ar}{a b:Nat}{xs ys:Bi}{R:DK}(h1:A[a]?=some (.lst xs))(h2:A[b]?=some (.lst ys))(k:R (.tup ((xs.zip ys).map λp=>.tup [p.1,p.2])) A):uZ a b A R:=by
 unfold uZ;simp only[h1,h2];exact k
def cA:M->Str->Rat->List (Str×Str×Rat)
 |.wt n,w,x=>[(w,n,x)]
 |.eZ l r a b,w,x=>cA a (w++("l":Str)) (x*((r:Rat)/((l+r:Int):Rat)))++cA b (w++("r":Str)) (x*((l:Rat)/((l+r:Int):Rat)))
theorem pM:∀(m:M) (w:Str) (x:Rat),(cA m w x).length=m.names.length
 |.wt _,_,_=>rfl
 |.eZ _ _ a b,w,x=>by
  show List.length (_++_)=List.length (_++_);rw[eE,eE,pM a,pM b]
theorem o5{m:M}(h:m.deep<=5):m.names.length<=32:=
 d7 (cu.o4 m) (iT δ h:2 ^ m.deep<=2 ^ 5)
theorem qZ{j k:Nat}(h:j<=k):(18:Int) ^ j<=18 ^ k:=by
 have:(18:Nat) ^ j<=18 ^ k:=iT δ h;exact_mod_cast this
theorem Ck(k:Nat):(1:Int)<=18 ^ k:=by
 have:1<=(18:Nat) ^ k:=Nat.one_le_pow _ _ δ;exact_mod_cast this
theorem FH{D a:Int}{j k:Nat}(h:D*18 ^ (max j k+1)<=1000000000)(hd:a<=D*18)(d:0<D):a*18 ^ j<=1000000000/\a*18 ^ k<=1000000000/\D<=1000000000:=by
 have e:D*18 ^ (max j k+1)=D*18*18 ^ max j k:=by rw[jz,nJ (18 ^ max j k) 18,<-mP]
 rw[e] at h;have b:=qZ (u7 j k);have p2:=qZ (u9 j k);have c:=Ck (max j k);have f:=Ck j;have g:=Ck k;refine⟨fh (dc hd b ω ω) h,fh (dc hd p2 ω ω) h,?_⟩;have:D*1<=D*18*18 ^ max j k:=dc ω c ω ω;omega
theorem SX{n:Nat}(h:n<2 ^ 2000):n.log2<9000:=by
 by_cases h0:n=0
 .rw[h0];decide+kernel
 .exact(log2_lt h0).mpr (dj h (iT δ δ))
theorem EY:∀(xs:Fu) (x:Rat) (b:Int),bot (xs++[x]) b=bot xs b*(rf x).2/(Int.gcd (bot xs b) (rf x).2:Int)
 |[],x,b=>rfl
 |y::r,x,b=>by
  show bot (r++[x]) _=_;rw[EY r x];rfl
theorem GN:∀(ns:Fn) (n d:Int),fj (ns++[n]) d=(Int.gcd (fj ns d) n:Int)
 |[],n,d=>rfl
 |m::r,n,d=>by
  show fj (r++[n]) _=_;rw[GN r n];rfl
structure zE(x:Rat):Prop where
 pos:0<x
 num:(rf x).1<=2000000
 den:(rf x).2<=2000000
theorem pI{c a b:Nat}(hc:0<c)(h:a<=b):(c:Int) ^ a<=(c:Int) ^ b:=by
 rw[<-ve,<-ve];exact Int.ofNat_le.mpr (iT hc h)
theorem TV{n:Int}{c k:Nat}(h0:0<n)(h:n<=(c:Int) ^ k):n.natAbs<=c ^ k:=by
 have:(n.natAbs:Int)<=(c:Int) ^ k:=ω
 rw[<-ve] at this;exact Int.ofNat_le.mp this
def Cons{W N S:Type}(l:List (W×N×S)):Prop:=∀a∈l,∀b∈l,a.2.1=b.2.1->a.2.2=b.2.2
theorem found{W N S:Type}[DecidableEq N]{l:List (W×N×S)}{n:N}{p:W×N×S}(h:l.find? (λp=>decide (p.2.1=n))=some p):p.2.1=n:=by
 have:=r_ h;simpa using this
theorem Ae{W N S:Type}[DecidableEq N][DecidableEq S]:∀(r pre:List (W×N×S)),fN pre r=none->Cons pre->Cons (pre++r)
 |[],pre,_,h=>by rw[lN];exact h
 |(g,n,s)::r,pre,l,h=>by
  have e:pre++(g,n,s)::r=(pre++[(g,n,s)])++r:=θ
  rw[e];cases j:pre.find? (λp=>decide (p.2.1=n)) with
  |none=>
   have i:fN (pre++[(g,n,s)]) r=none:=by
    have:=l;unfold fN at this;rw[j] at this;exact this
   refine Ae r _ i λa ha b hbm d=>?_;have no:∀c∈pre,c.2.1≠n:=λc hc z=>by
    have:=nS.mp j c hc;exact this (dg z)
   rcases bR.mp ha with ha|ha<;>rcases bR.mp hbm with hbm|hbm
   .exact h a ha b hbm d
   .rw[bS.mp hbm] at d
    exact absurd d (no a ha)
   .rw[bS.mp ha] at d
    exact absurd d.symm (no b hbm)
   .rw[bS.mp ha,bS.mp hbm]
  |some p=>
   have f:=l;unfold fN at f;rw[j] at f;by_cases es:p.2.2=s
   .have i:fN (pre++[(g,n,s)]) r=none:=by
     have:(if p.2.2=s then fN (pre++[(g,n,s)]) r else some (p.1,g))=none:=f;rwa [aB es] at this
    have m:=mO j;have k:p.2.1=n:=found j;refine Ae r _ i λa ha b hbm d=>?_;have to:∀c∈pre,c.2.1=n->c.2.2=s:=λc hc z=>by rw[h c hc p m (by rw[z,k]),es]
    rcases bR.mp ha with ha|ha<;>rcases bR.mp hbm with hbm|hbm
    .exact h a ha b hbm d
    .rw[bS.mp hbm] at d ⊢
     exact to a ha d
    .rw[bS.mp ha] at d ⊢
     exact(to b hbm d.symm).symm
    .rw[bS.mp ha,bS.mp hbm]
   .have:(if p.2.2=s then fN (pre++[(g,n,s)]) r else some (p.1,g))=none:=f
    rw[av es] at this;cases this
theorem Fd{W N S:Type}[DecidableEq N][DecidableEq S]:∀(r pre:List (W×N×S)),Cons (pre++r)->fN pre r=none
 |[],pre,_=>by unfold fN;rfl
 |(a,n,s)::r,pre,h=>by
  have e:pre++(a,n,s)::r=(pre++[(a,n,s)])++r:=θ
  have c:=Fd r (pre++[(a,n,s)]) (by rw[<-e];exact h);unfold fN;cases d:pre.find? (λp=>decide (p.2.1=n)) with
  |none=>exact c
  |some p=>
   have f:=mO d;have b:p.2.1=n:=found d;have es:p.2.2=s:=h p (nH _ f) (a,n,s) θ b;show(if p.2.2=s then _ else _)=none;rw[aB es];exact c
theorem rq:∀(m:M) (w:Str) (x:Rat),(cA m w x).map (·.2.1)=m.names
 |.wt _,_,_=>rfl
 |.eZ _ _ a b,w,x=>by
  show((cA a _ _++cA b _ _).map (·.2.1))=a.names++b.names;rw[c_,rq a,rq b]
theorem uS:∀(m:M) (w:Str) (x:Rat),(cA m w x).map (·.2.2)=m.sh x
 |.wt _,_,_=>rfl
 |.eZ _ _ a b,w,x=>by
  show((cA a _ _++cA b _ _).map (·.2.2))=a.sh _++b.sh _;rw[c_,uS a,uS b]
noncomputable def shr(m:M):Str->Rat:=λx=>match (cA m "" 1).find? (λp=>decide (p.2.1=x)) with|some p=>p.2.2|none=>0
theorem CJ{m:M}(h:fN [] (cA m "" 1)=none):(∀a∈cA m "" 1,a.2.2=shr m a.2.1)/\m.names.map (shr m)=m.sh 1:=by
 have hc:=Ae (cA m "" 1) [] h (by intro a b;simp at b);rw[fm] at hc;have key:∀a∈cA m "" 1,a.2.2=shr m a.2.1:=λa b=>by
  show _=(match (cA m "" 1).find? (λp=>decide (p.2.1=a.2.1)) with|some p=>p.2.2|none=>0);cases c:(cA m "" 1).find? (λp=>decide (p.2.1=a.2.1)) with
  |none=>exact absurd (dg rfl) (nS.mp c a b)
  |some p=>exact(hc p (mO c) a b (found c)).symm
 refine⟨key,?_⟩;rw[<-rq m "" 1,<-uS m "" 1,br];exact mL λa b=>(key a b).symm
theorem num_mul{t:Rat}{a b:Int}(c:0<b)(d:0<=(rf t).1*a):(rf (t*((a:Rat)/(b:Rat)))).1<=(rf t).1*a:=by
 rw[<-Cy,<-yE (dm (cj t) c)];exact r8 _ d
theorem CH:∀(m:M) (x:Rat) (B:Int),m.arms->0<x->(rf x).1<=B->∀s∈m.sh x,(rf s).1<=B*18 ^ m.deep
 |.wt _,x,B,_,h1,h2,s,hs=>by
  have:s=x:=by simpa[cu.sh] using hs
  subst this;simpa[cu.deep] using h2
 |.eZ l r a b,x,B,h,h1,h2,s,hs=>by
  obtain⟨c,p,d,q,e,f⟩:=h;have g:0<B:=rT (cV h1) h2;have np:=cV h1;have i:(rf (x*((r:Rat)/((l+r:Int):Rat)))).1<=B*18:=by
   refine fh (num_mul ω (rH ω ω)) ?_;exact dc h2 ω ω ω
  have j:(rf (x*((l:Rat)/((l+r:Int):Rat)))).1<=B*18:=by
   refine fh (num_mul ω (rH ω ω)) ?_;exact dc h2 ω ω ω
  have n:0<x*((r:Rat)/((l+r:Int):Rat)):=cu.step_pos c d h1;have p2:0<x*((l:Rat)/((l+r:Int):Rat)):=by
   have:=cu.step_pos (l:=r) (r:=l) d c h1;rwa [add_comm r l] at this
  have up:∀k:Nat,k<=max a.deep b.deep->B*18*18 ^ k<=B*18 ^ (max a.deep b.deep+1):=λk o=>by
   rw[jz,mP,nJ 18 (18 ^ k)];refine rV ?_ (dM g);exact zv (qZ o) δ
  rcases bR.mp (show s∈a.sh _++b.sh _ from hs) with hs|hs
  .exact fh (CH a _ _ e n i s hs) (up _ (u7 _ _))
  .exact fh (CH b _ _ f p2 j s hs) (up _ (u9 _ _))
theorem Xm{m:M}(a:m.arms)(f:m.deep<=5):∀s∈m.sh 1,0<s/\(rf s).1<=1889568/\(rf s).2<=1889568:=λs b=>by
 obtain⟨g,c⟩:=cu.yK m 1 1 a δ δ s b;have d:=CH m 1 1 a δ δ s b;have p:=qZ f;have e:(18:Int) ^ 5=1889568:=δ
 rw[e] at p;rw[one_mul] at c d;exact⟨g,fh d p,fh c p⟩
theorem Xn{m:M}(a:m.arms)(b:m.deep<=5)(h:fN [] (cA m "" 1)=none){x:Str}(c:x∈m.names):zE (shr m x):=by
 have:shr m x∈m.sh 1:=by
  rw[<-(CJ h).2];exact aP.mpr ⟨x,c,rfl⟩
 obtain⟨h1,h2,d⟩:=Xm a b _ this;exact⟨h1,ω,ω⟩
theorem dW{a:Ar->Prop}{g:kR}{b:cT}{R:lU}(J:Bi->bL->Ar->Prop)(hc:∀rest τ A,J rest τ A->a A)
  (e:∀x rest τ A,J (x::rest) τ A->∀c:bL->Ar->Prop,(∀bT A',J rest bT A'->c bT A')->g x τ A λd h=>b {R with nx:=c,ct:=c,bk:=R.nx} d h)(f:∀τ A,J [] τ A->R.nx τ A):∀(items:Bi) (τ:bL) (A:Ar),J items τ A->qA a g b R items τ A
 |[],τ,A,j=>⟨hc _ _ _ j,f _ _ j⟩
 |x::rest,τ,A,j=>⟨hc _ _ _ j,e _ _ _ _ j _ λbT A' i=>dW J hc e f rest bT A' i⟩
theorem Aj{k:Option Nat}{fr:bL}{te:aT}{a:Ar->Prop}{R:Bi->Ar->Prop}(J:Bi->Bi->Ar->Prop)(hc:∀rest ys A,J rest ys A->a A)(hl:∀rest ys A,J rest ys A->ys.length<=sizeLine)
  (c:∀x rest ys A,J (x::rest) ys A->∃vs,mF k x=some vs/\∀Q:DK,(∀y b,J rest (ys++[y]) b->Q y b)->te (vs.map some++fr) A Q)(d:∀ys A,J [] ys A->R ys A):∀items ys A,J items ys A->jG a k fr mE te R items ys A
 |[],ys,A,j=>⟨hc _ _ _ j,d _ _ j⟩
 |x::rest,ys,A,j=>by
  obtain⟨vs,f,q⟩:=c _ _ _ _ j;refine⟨hc _ _ _ j,?_⟩;rw[f];refine q _ λy b e=>⟨?_,Aj J hc hl c d rest _ _ e⟩;have:=hl _ _ _ e;simp at this;omega
theorem sQ{k:Option Nat}{fr:bL}{tt:fH}{te:aT}{a:Ar->Prop}{R:Bi->Ar->Prop}{A:Ar}(hc:a A)(p:D->Bool)(f:D->D):∀(items ys:Bi),(∀x∈items,∃vs,mF k x=some vs/\(∀Q:Bool->Ar->Prop,Q (p x) A->tt (vs.map some++fr) A Q)/\∀Q:DK,Q (f x) A->te (vs.map some++fr) A Q)->ys.length+items.length<=sizeLine->R (ys++(items.filter p).map f) A->jG a k fr tt te R items ys A
 |[],ys,_,_,h=>⟨hc,by simpa using h⟩
 |x::xs,ys,b,hl,h=>by
  obtain⟨vs,e,g,i⟩:=b x (bw ..);refine⟨hc,?_⟩;rw[e];simp at hl;refine g _ ?_;cases d:p x with
  |true=>
   rw[Dm d] at h;exact i _ ⟨ω,sQ hc p f xs (ys++[f x]) (λy c=>b y (bq _ c)) (by simp;omega) (by simpa using h)⟩
  |false=>
   rw[Dl (by simp[d])] at h;exact sQ hc p f xs ys (λy c=>b y (bq _ c)) ω h
theorem Gr.Iz{A d A':Ar}{t:Nat}(g:Gr A d)(e:A.length<=t)(b:eK t d A'):Gr A A':=by
 have key:∀q c,A[q]?=some c->A'[q]?=some c:=λq c h=>b q c (by have:=bQ h;omega) (g.get h);refine⟨A'.drop A.length,r9 λq=>?_⟩;by_cases a:q<A.length
 .rw[iG a,aS a]
  exact key q _ (aS a)
 .rw[sf ω,List.getElem?_drop]
  congr 1;omega
open PySem.SeqAt
def qh(op:CmpOp)(A:Around)(s:Shared)(y x:Value)(b:Bool):Prop:=∀(prog:Program) (w:World) (E:aV) (Q:aV),Q (.bool b) s->wpAny (model prog w) A (richCompare op y x) Q E s
inductive j8(op:CmpOp)(A:Around)(s:Shared)(fin b:Bool):List (Value×Value)->Prop
 |nil:fin=b->j8 op A s fin b []
 |eq {y x:Value} {r:List (Value×Value)}:EqAt A s y x true->j8 op A s fin b r->j8 op A s fin b ((y,x)::r)
 |ne {y x:Value} {r:List (Value×Value)}:EqAt A s y x false->qh op A s y x b->j8 op A s fin b ((y,x)::r)
open MeetsSeq MeetsSeq2 MeetsSeq3 SeqRoads2
theorem Ys(l b:Addr)(items a:Array Value)(n n2:Nat)(u f:Option Addr)(o i:Array (Option Value))(res:Bool):
  Meets (Builtin.«tuple.__lt__» ⟨[.ref l,.ref b],[]⟩)
   (λA R s=>s.heap.get? l=some {cls:=.type "tuple",dict:=u,data:=.seq items n,slots:=o}/\s.heap.get? b=some {cls:=.type "tuple",dict:=f,data:=.seq a n2,slots:=i}/\
    j8 .Lt A.in1 s (decide (items.size<a.size)) res (items.toList.zip a.toList)/\R (.ok (.ret (.bool res))) s):=
 .of_wp λprog w A R s h=>by
  obtain⟨k,g,d,m,os⟩:=s;obtain⟨hl,p,q,h⟩:=h;have v:=AutoSeq1.sub_tuple_tuple;wp_walk using zq hl,zq p,wpAny_forIn_list _ (λrest b s'=>b.1=none/\s'=⟨k,g,d,m,os⟩/\j8 .Lt A.in1 ⟨k,g,d,m,os⟩ (decide (items.size<a.size)) res rest) _;case turn=>
   rintro ⟨y,x⟩ rest b s' ⟨c,rfl,j⟩;cases j with
   |eq h1 h2=>
    refine ai (h1 prog w _ _ ?_);wp_walk;exact⟨rfl,rfl,h2⟩
   |ne h1 h2=>
    refine ai (h1 prog w _ _ ?_);simp only[Bool.not_false,nF];refine ai (lM ?_);refine ai (h2 prog w _ _ ?_);wp_walk;exact⟨_,rfl,h⟩
  case fin=>
   rintro ⟨r,t⟩ s' ⟨c,rfl,j⟩;simp only at c;subst c;cases j with
   |nil e=>
    wp_walk;exact⟨_,rfl,by rw[<-e] at h;simpa[Builtin.Tuple.tupleCompareSizes] using h⟩
  case h=>
   exact⟨rfl,rfl,q⟩
mutual
def ltQ:PyData->PyData->Option Bool
 |.int i,.int j=>some (decide (i<j))
 |.str x,.str y=>some (decide (x.cps.toList<y.cps.toList))
 |.tuple xs,.tuple ys=>eV xs ys
 |_,_=>none
def eV:Fs->Fs->Option Bool
 |[],[]=>some false
 |[],_::_=>some true
 |_::_,[]=>some false
 |x::xs,y::ys=>match PyData.eqv x y with
  |true=>eV xs ys
  |false=>ltQ x y
end
theorem M9(i j:Int)(A:Around)(s:Shared)(a b:Value)(as bs:D1)(r:Bool)(e:ltQ (.int i) (.int j)=some r)(ra:Reads s.heap a (.int i) as)(c:Reads s.heap b (.int j) bs):qh .Lt A s a b r:=by
 cases ra;cases c;rw[ltQ] at e;cases e;intro prog w E Q q;exact lt_int q
theorem M_(xs ys:Fs)(A:Around)(s:Shared)(a b:Value)(as bs:D1)(r:Bool)(i:A.units+min (PyData.tuple xs).depth (PyData.tuple ys).depth<cLine)(L:∀d vs as bs,ReadsAll s.heap d xs as->ReadsAll s.heap vs ys bs->A.in1.units+min (depthAll xs) (depthAll ys)<cLine->j8 .Lt A.in1 s (decide (d.length<vs.length)) r (d.zip vs))(ra:Reads s.heap a (.tuple xs) as)(m:Reads s.heap b (.tuple ys) bs):qh .Lt A s a b r:=by
 cases ra with
 | @tuple l o vs n _ e h1 h2 j p=>
  cases m with
  | @tuple t o' c n' _ f y z B u=>
   obtain⟨cls,C,data,v⟩:=o;obtain⟨k,g,data2,h⟩:=o';simp only at h2 j z B;subst h2 j z B;have L:=L vs.toList c.toList _ _ p u (room_in i);intro prog w E Q q;exact richCompare_meets_room (op:=.Lt) ⟨_,h1,rfl⟩ ⟨_,y,rfl⟩ F.slot_tuple_lt F.entry_tuple_lt (F.args_tuple_lt_2 _ _) (Ys l t vs c n n' C g v h r)
    ⟨h1,y,by simpa using L,show Value.bool r≠Value.notImplemented/\Q (.bool r) s from⟨(λx=>nomatch x),q⟩⟩ (room_here i)
theorem Nb(i j:Str)(A:Around)(s:Shared)(a b:Value)(as bs:D1)(r:Bool)(e:ltQ (.str i) (.str j)=some r)(ra:Reads s.heap a (.str i) as)(c:Reads s.heap b (.str j) bs):qh .Lt A s a b r:=by
 cases ra;cases c;rw[ltQ] at e;cases e;intro prog w E Q q;exact lt_str q
theorem HN{α β:Type}{a:α}{b:β}{u:List α}{v:List β}:decide ((a::u).length<(b::v).length)=decide (u.length<v.length):=θ
theorem Na(x y:PyData)(xs ys:Fs)(A:Around)(s:Shared)(a vs:BM)(as bs:D1)(r:Bool)(e:eV (x::xs) (y::ys)=some r)(ra:ReadsAll s.heap a (x::xs) as)(i:ReadsAll s.heap vs (y::ys) bs)(j:canLayAll0 (x::xs)=true)(k:canLayAll0 (y::ys)=true)
 (g:A.units+min (depthAll (x::xs)) (depthAll (y::ys))<cLine)
 (l:∀a vs as bs,eV xs ys=some r->ReadsAll s.heap a xs as->ReadsAll s.heap vs ys bs->canLayAll0 xs=true->canLayAll0 ys=true->A.units+min (depthAll xs) (depthAll ys)<cLine->j8 .Lt A s (decide (a.length<vs.length)) r (a.zip vs))
 (L2:∀u v as bs,ltQ x y=some r->Reads s.heap u x as->Reads s.heap v y bs->x.canLay0=true->y.canLay0=true->A.units+min x.depth y.depth<cLine->qh .Lt A s u v r):j8 .Lt A s (decide (a.length<vs.length)) r (a.zip vs):=by
  have b:x.canLay0=true/\canLayAll0 xs=true:=by simpa[canLayAll0] using j
  have d:y.canLay0=true/\canLayAll0 ys=true:=by simpa[canLayAll0] using k
  cases ra with
  |cons n o=>
   cases i with
   |cons h m=>
    have f:=eqAt_reads x y A s _ _ _ _ n h b.1 d.1 (room_head g)
    rw[eV] at e
    cases c:PyData.eqv x y with
    |true=>
     rw[c] at e f
     have L:=l _ _ _ _ e o m b.2 d.2 (room_tail g)
     rw[HN]
     exact .eq f L
    |false=>
     rw[c] at e f
     exact .ne f (L2 _ _ _ _ e n h b.1 d.1 (room_head g))
mutual
theorem Nc:∀(d db:PyData) (A:Around) (s:Shared) (a b:Value) (as bs:D1) (r:Bool),ltQ d db=some r->Reads s.heap a d as->Reads s.heap b db bs->d.canLay0=true->db.canLay0=true->
  A.units+min d.depth db.depth<cLine->qh .Lt A s a b r
 |.none,db,A,s,_,_,_,_,r,e,ra,c,_,_,_=>by simp[ltQ] at e
 |.bool _,db,A,s,_,_,_,_,r,e,ra,c,_,_,_=>by simp[ltQ] at e
 |.list _,db,A,s,_,_,_,_,r,e,ra,c,_,_,_=>by simp[ltQ] at e
 |.dict _,db,A,s,_,_,_,_,r,e,ra,c,_,_,_=>by simp[ltQ] at e
 |.int i,db,A,s,_,_,_,_,r,e,ra,c,_,_,_=>by
  cases db with
  |int j=>exact M9 i j A s _ _ _ _ r e ra c
  |_=>simp[ltQ] at e
 |.str i,db,A,s,_,_,_,_,r,e,ra,c,_,_,_=>by
  cases db with
  |str j=>exact Nb i j A s _ _ _ _ r e ra c
  |_=>simp[ltQ] at e
 |.tuple xs,db,A,s,_,_,_,_,r,e,ra,c,f,g,h=>by
  cases db with
  |tuple ys=>exact M_ xs ys A s _ _ _ _ r h (λk vs as bs h1 h2 l=>BP xs ys A.in1 s k vs as bs r (by rw[ltQ] at e;exact e) h1 h2 f g l) ra c
  |_=>simp[ltQ] at e
theorem BP:∀(xs ys:Fs) (A:Around) (s:Shared) (a vs:BM) (as bs:D1) (r:Bool),eV xs ys=some r->ReadsAll s.heap a xs as->ReadsAll s.heap vs ys bs->canLayAll0 xs=true->canLayAll0 ys=true->
  A.units+min (depthAll xs) (depthAll ys)<cLine->j8 .Lt A s (decide (a.length<vs.length)) r (a.zip vs)
 |[],ys,A,s,_,_,_,_,r,e,ra,b,_,_,_=>by
  cases ys with
  |nil=>cases ra;cases b;rw[eV] at e;cases e;exact .nil θ
  |cons y ys=>cases ra;cases b;rw[eV] at e;cases e;exact .nil θ
 |x::xs,ys,A,s,a,vs,as,bs,r,e,ra,b,h,i,j=>by
  cases ys with
  |nil=>cases ra;cases b;rw[eV] at e;cases e;exact .nil θ
  |cons y ys=>exact Na x y xs ys A s a vs as bs r e ra b h i j (λa vs as bs h1 h2 c d f g=>BP xs ys A s a vs as bs r h1 h2 c d f g) (λu v as bs h1 h2 c d f g=>Nc x y A s u v as bs r h1 h2 c d f g)
end
section
variable{ae:aZ}{σ:St}{H:Hp}{s:Shared}{d:Addr}{kvs:List (Key×V)}
theorem Inv.swap{u g:HO}(I:Inv X ae σ H s)(hd:H d=some u)(j:∀xs,u≠ .tup xs)(k:∀ps,u≠ .jw ps)(l:∀a,u≠ .own a)(m:∀o v,X.H₀ d=some (.bW o v)->False)(q:b9 X.prog X.w H s.heap d g):Inv X ae σ (ax H d g) s:=by
 have nn:∀b,H b=none->ax H d g b=none:=λb h=>by
  rw[aY (λz=>by rw[z,hd] at h;cases h)];exact h
 have st:∀(a:Addr) (o:HO),b9 X.prog X.w H s.heap a o->b9 X.prog X.w (ax H d g) s.heap a o:=λa o x=>
  x.stay (λb v _ e=>e) (λb h=>by rw[aY (λz=>by rw[z,hd] at h;exact l a (Option.some.inj h))];exact h) λb xs h=>by rw[aY (λz=>by rw[z,hd] at h;exact j xs (Option.some.inj h))];exact h
 refine⟨I.ok,I.os,I.bare,⟨I.base.keep,I.base.slot,λb o e n r=>nn b (I.base.free b o e n r),I.base.there,λb xs h=>?_,λb o v h=>?_,λb ps h=>?_⟩,I.loc,I.cell,nn _ I.free,λx c e=>nn _ (I.gA x c e),λp i=>?_,λa o h=>?_,I.len⟩
 .have h':=I.base.tups b xs h
  rw[aY (λz=>by rw[z,hd] at h';exact j xs (Option.some.inj h'))];exact h'
 .have h':=I.base.fQ b o v h
  rw[aY (λz=>by rw[z] at h;exact m o v h)];exact h'
 .obtain⟨f,h'⟩:=I.base.gq b ps h
  exact⟨f,by rw[aY (λz=>by rw[z,hd] at h';exact k _ (Option.some.inj h'))];exact h'⟩
 .obtain⟨h1,h2,t⟩:=I.pin p i
  exact⟨h1,nn _ h2,t⟩
 .by_cases z:a=d
  .subst z
   rw[dZ] at h;cases h;exact st _ _ q
  .rw[aY z] at h
   exact st _ _ (I.ar a o h)
theorem Inv.fz(I:Inv X ae σ H s)(hd:H d=some (.dK kvs)):(∀o v,X.H₀ d=some (.bW o v)->False)/\∃o,Inv X ae σ (ax H d (.bW o (.dK kvs))) s:=by
 have a:∀o v,X.H₀ d=some (.bW o v)->False:=λo v h=>by
  have:=I.base.fQ d o v h;rw[hd] at this;cases this
 have b:=I.ar d _ hd;obtain⟨h1,h2,vs,f,c⟩:=id b;obtain⟨o,es,ep,e,r⟩:=id c;exact⟨a,o,I.swap hd (λ_ z=>by cases z) (λ_ z=>by cases z) (λ_ z=>by cases z) a ⟨e,b⟩⟩
theorem Inv.Lv{o:Obj}(I:Inv X ae σ H s)(hd:H d=some (.bW o (.dK kvs)))(a:∀o v,X.H₀ d=some (.bW o v)->False):Inv X ae σ (ax H d (.dK kvs)) s:=
 I.swap hd (λ_ z=>by cases z) (λ_ z=>by cases z) (λ_ z=>by cases z) a (I.ar d _ hd).2
end
noncomputable def zK(a:Addr)(o:Obj)(ks:Ee):It:=
 ⟨λi H=>∃kvs,H a=some (.bW o (.dK kvs))/\kvs.map (·.1)=ks/\i<ks.length,λi H x H'=>H'=H/\∃k,ks[i]?=some k/\x=kV k,λi H=>∃kvs,H a=some (.bW o (.dK kvs))/\kvs.map (·.1)=ks/\ks.length<=i⟩
theorem Wa{k:Key}{v:Value}(h:kC k v=true):RelV (kV k) v:=by
 rcases ja h with⟨i,t,rfl,rfl⟩|⟨x,t,rfl,rfl⟩
 .exact⟨t,rfl⟩
 .exact⟨t,rfl⟩
theorem Bc{X:Cx}{ae:aZ}{σ:St}{H:Hp}{s:Shared}{a:Addr}{o:Obj}{kvs:List (Key×V)}{es:Array DictEntry}{ep:Nat}(I:Inv X ae σ H s)(h:H a=some (.bW o (.dK kvs)))(b:o.data=.dict es ep):(a==sysModules)=false/\∃vs:List (Key×Value),vs.map (·.1)=kvs.map (·.1)/\s.heap.DictAt (c9 X.prog X.w) a vs ep:=by
 obtain⟨e,k,h2,vs,c,f⟩:=(show b9 X.prog X.w H s.heap a (.bW o (.dK kvs)) from I.ar a _ h);obtain⟨o',g,i,d,hc,hd,r⟩:=f;rw[e] at d;cases d;rw[b] at hd;cases hd;refine⟨h2,vs,?_,⟨o,es,e,hc,b,r⟩⟩;clear r h2 h e k;unfold KV at c;induction c with
 |nil=>rfl
 |cons p t j=>rw[cM,cM,j,p.1]
theorem Yv{P:Program}{w:World}{K:Frag}{tg:Expr}(a it:Addr){o:Obj}{M:Ee}{es:Array DictEntry}{ep:Nat}(A:o.data= .dict es ep):Turn P w K tg (zK a o M) [it] it (λi h=>h.IsKeyIter it a i M.length ep) where
 mem:=θ
 obj:=λi h st b f=>by
  have e:b=it:=by simpa using f
  subst e
  obtain⟨o,e,c,d⟩:=st
  exact⟨o,e,λv z=>by rw[d] at z;cases z⟩
 keep:=λi h h' st k=>st.at λo e=>k it θ o e
 item:=by
  intro X p q r hc i ae s σ H E I m st t
  subst p q r
  obtain⟨kvs,h1,h2,C⟩:=t
  obtain⟨D,vs,n,g⟩:=Bc I h1 A
  have hl:vs.length=M.length:=by rw[<-h2,<-n,aM]
  obtain⟨f0,N,O,u,f4,x⟩:=m it θ
  obtain⟨y,B⟩:∃y,vs[i]? =some y:=⟨vs[i]' ω,aS _⟩
  have F:M[i]? =some y.1:=by rw[<-h2,<-n,bz,B];rfl
  rw[<-hl] at st
  refine wpAny_pyNext_dict_item (knd:=c9 X.prog X.w) st g B λkey h' l j G=> ?_
  have J:Inv X ae σ H {s with heap:=h'}:=I.turned (t':=s.toks) (λb o f e=>(G.2 b f).trans e) f0 N u f4 x
  obtain⟨o',e,c,d⟩:=id j
  rw[hl] at j
  exact⟨key,rfl,tN (s:={s with heap:=h'}) e c d δ ⟨_,H,J,Wa l,⟨rfl,_,F,rfl⟩,j,λb f=>(m b f).1⟩⟩
 done:=by
  intro X p q r hc i ae s σ H E I m st t
  subst p q r
  obtain⟨kvs,h1,h2,C⟩:=t
  obtain⟨D,vs,n,g⟩:=Bc I h1 A
  have hl:vs.length=M.length:=by rw[<-h2,<-n,aM]
  obtain⟨f0,N,O,u,f4,x⟩:=m it θ
  rw[<-hl] at st
  exact wpAny_pyNext_dict_end (knd:=c9 X.prog X.w) (I.ok.hd hc) st g (nX ω) λh' L=>⟨rfl,I.turned (t':=s.toks) (λb o f e=>L b o f e) f0 N u f4 x⟩
 self:=λ_ _ _ _ _ st h=>wpAny_pyIter_keyiter st h
def RD(tl:TE):TI:=λσ H R=>tl σ H λx H1=>∃a o kvs,x=.ref a/\H1 a=some (.bW o (.dK kvs))/\R (zK a o (kvs.map (·.1))) H1
theorem Vn{X:Cx}{tg l:Expr}{tl:TE}(hl:PE X l tl):PI X tg l (RD tl):=by
 intro ae s σ H R I h;refine aQ (hl ae s σ H _ I h) λv c ⟨x,H1,d,j,k⟩=>?_;obtain⟨a,o,kvs,e,g,q⟩:=k;subst e;cases j;obtain⟨e,_,h2,vs,u,m⟩:=(show b9 X.prog X.w H1 c.heap a (.bW o (.dK kvs)) from d.ar a _ g);obtain⟨o',es,ep,i,hc,hd,r⟩:=id m;rw[e] at i;cases i;obtain⟨n,vs,p,f⟩:=Bc d g hd;have hl:(kvs.map (·.1)).length=vs.length:=by rw[<-p,aM]
 refine wpAny_pyIter_dict (knd:=c9 X.prog X.w) n f ?_;refine⟨c.heap.objs.size,[c.heap.objs.size],_,_,H1,rfl,d.kept (t':=c.toks) λb o e=>bu _ e,Yv a _ hd,⟨_,cS _ rfl,rfl,by rw[hl];rfl⟩,λb t=>?_,q⟩;have e:b=c.heap.objs.size:=by simpa using t
 subst e;exact d.ng (aJ _) (d.ar.fresh (aJ _))
noncomputable def keyOf:Key->D
 |.inl i=>.int i
 |.inr x=>.str x
theorem Wq{mg:ay}{ι:Io}{n:Nat}{H:Hp}(k:Key):RV mg ι n H (keyOf k) (kV k):=by
 cases k<;>rfl
theorem RK.qK{mg:ay}{ι:Io}{H:Hp}:∀{ds:List (Key×D)} {vs:List (Key×V)} {n:Nat},RK mg ι n H ds vs->vs.map (·.1)=ds.map (·.1)
 |[],vs,_,h=>by have h':vs=[]:=h;rw[h'];rfl
 |d::ds,vs,n,h=>by
  obtain⟨x,r,rfl,_,a⟩:=h;rw[cM,cM,RK.qK a]
theorem Sb{mg:ay}{A:Ar}{ι:Io}{H:Hp}{q:Nat}{o:Obj}{kvs:List (Key×D)}(b:q<A.length):lX mg A ι H (zK (ι q) o (kvs.map (·.1))) (kvs.map λp=>keyOf p.1) (λA'=>A'[q]?=some (.bI o kvs)) where
 go:=λi d f a H1 hd e r hc=>by
  obtain⟨xs,h1,h2⟩:=r.bI hc;rw[e.ag q b] at h1;have hi:=(bK.mp hd).1;rw[aM] at hi;refine⟨⟨xs,h1,RK.qK h2,by rw[aM];exact hi⟩,λx H' y=>?_⟩;obtain⟨rfl,k,c,rfl⟩:=y;refine⟨r.refl,r,?_⟩;rw[bz,aS hi] at hd c;cases hd;cases c;exact Wq _
 stop:=λf a H1 e r hc=>by
  obtain⟨xs,h1,h2⟩:=r.bI hc;rw[e.ag q b] at h1;exact⟨xs,h1,RK.qK h2,θ⟩
@[irreducible] def t_(r:Nat)(A:Ar)(R:Bi->(Ar->Prop)->Ar->Prop):Prop:=match A[r]? with
 |some (.bI o kvs)=>R (kvs.map λp=>keyOf p.1) (λA'=>A'[r]?=some (.bI o kvs)) A
 |_=>False
def tY(m:aT):jD:=λτ A R=>m τ A λx A1=>match x with
 |.ref r=>t_ r A1 R
 |_=>False
section
variable{tg e:Expr}{m:aT}
theorem s8(f:PE X e (up X.mg N m)):PI X tg e (jT X.mg N (tY m)):=qD (Vn f) λσ H Q q=>by
 obtain⟨A,ι,τ,R,S,q,k⟩:=q;refine⟨A,ι,τ,_,S,q,λx c b H1 u a g d h=>?_⟩;cases x with
 |ref r=>
  obtain⟨i,rfl⟩:=h;have a:t_ r c R:=a;unfold t_ at a;split at a
  .rename_i o kvs e
   obtain⟨xs,h1,h2⟩:=d.bI e;refine⟨_,o,xs,rfl,h1,?_⟩;rw[RK.qK h2];exact k _ _ c b H1 _ a g d (Sb i)
  .exact a.elim
 |_=>exact a.elim
def Lp(r:Nat)(o:Obj)(A2:Ar)(Q:Ar->Prop):Prop:=∃kvs,A2[r]?=some (.bI o kvs)/\Q (A2.set r (.dct kvs))
theorem GG{σ:St}{H:Hp}{A:Ar}{ι:Io}{τ:bL}{r:Nat}{kvs:List (Key×D)}{xs:List (Key×V)}{o:Obj}(S:eN X.mg N A ι τ σ H)(e:A[r]?=some (.dct kvs))(h1:H (ι r)=some (.dK xs))(h2:RK X.mg ι A.length H kvs xs):
  eN X.mg N (A.set r (.bI o kvs)) ι τ σ (ax H (ι r) (.bW o (.dK xs)))/\Ext A ι H (A.set r (.bI o kvs)) ι (ax H (ι r) (.bW o (.dK xs))):=by
 have hl:=(bK.mp e).1;have E:=S.ra.nc (o:=.bW o (.dK xs)) (c:=.bI o kvs) hl;obtain⟨ra,a⟩:=S.ra.put (c':=.bI o kvs) (o:=.bW o (.dK xs)) e h1 rfl ⟨_,dZ,by simpa using RK.ext E kvs xs h2⟩;exact⟨S.next a ra,a⟩
theorem GF{mg:ay}{H:Hp}{A:Ar}{ι:Io}{r:Nat}{kvs:List (Key×D)}{o:Obj}(ra:RA mg ι H A)(e:A[r]?=some (.bI o kvs)):∃xs,H (ι r)=some (.bW o (.dK xs))/\RA mg ι (ax H (ι r) (.dK xs)) (A.set r (.dct kvs))/\Ext A ι H (A.set r (.dct kvs)) ι (ax H (ι r) (.dK xs)):=by
 obtain⟨xs,h1,h2⟩:=ra.bI e;have hl:=(bK.mp e).1;have E:=ra.nc (o:=.dK xs) (c:=.dct kvs) hl;obtain⟨a,b⟩:=ra.put (c':=.dct kvs) (o:=.dK xs) e h1 rfl ⟨_,dZ,by simpa using RK.ext E kvs xs h2⟩;exact⟨xs,h1,a,b⟩
end
theorem xm{A:Ar}{r:Nat}{o:Obj}{kvs:List (Key×D)}{R:Bi->(Ar->Prop)->Ar->Prop}(h:A[r]?=some (.bI o kvs))(k:R (kvs.map λp=>keyOf p.1) (λA'=>A'[r]?=some (.bI o kvs)) A):t_ r A R:=by
 unfold t_;rw[h];exact k
theorem BE{A:Ar}{r:Nat}{o:Obj}{kvs:List (Key×D)}{y v:D}{k:Key}{R:DK}(h:A[r]?=some (.bI o kvs))(a:f_ y=some k)(b:bA kvs k=some v)(q:R v A):kB r y A R:=by
 unfold kB;rw[h];simp only[a,b];exact q
theorem range_any(bs:FC):((range bs.length).any λi=>(bs[i]?).getD false)=bs.any id:=by
 rw[pS,jZ,jZ];constructor
 .rintro ⟨i,hi,h⟩
  have hi:i<bs.length:=by simpa using hi
  rw[aS hi] at h;exact⟨_,jV hi,h⟩
 .rintro ⟨b,a,h⟩
  obtain⟨i,hi,e⟩:=jW a;exact⟨i,by simpa using hi,by rw[aS hi,e];exact h⟩
theorem MZ(hc:X.calm=true):fy X (.builtin "any") (λxs H Q=>∃(p:Addr) (bs:FC),xs=[.ref p]/\bf X.K H p (bs.map V.bl)/\Q (.bl (bs.any id)) H):=by
 intro ae s σ H xs n Q I r h;obtain⟨p,bs,rfl,f,q⟩:=h;obtain⟨u,rfl,g⟩:=vals1 r;cases g;obtain⟨vs,j,pl,w⟩:=I.list f;have c:=Ag j;have hl:=pl.isList;have a:p<s.heap.objs.size:=by obtain⟨_,e,_⟩:=hl;exact aW e
 refine call_any_walk (vo hl ?_);refine⟨s.heap.objs.size,[s.heap.objs.size,p],[s.heap.objs.size],vs.toArray.size,_,_,λi=>(bs[i]?).getD false,rfl,Walks.list (A:=X.A.in1) (I.ok.hd hc) _ p (bG a) vs.toArray,
  ⟨⟨_,cS _ rfl,rfl,rfl⟩,hl.push _⟩,λi v s' o t k d=>?_,λh' l m=>?_⟩
 .obtain⟨b,e,rfl⟩:=c.get i v (by simpa using k)
  simp only[e,getD_some] at d;exact nO d
 .have e:((range vs.toArray.size).any λi=>(bs[i]?).getD false)=bs.any id:=by
   rw[cE,c.length];exact range_any bs
  rw[e];exact⟨.bl _,H,I.kept (h':=h') (t':=l) (LSm.kept_iter m),rfl,q⟩
theorem MW:bootBuiltins "any"=some (.builtin "any"):=by with_unfolding_all rfl
@[irreducible] def anyR(r:Nat)(A:Ar)(R:DK):Prop:=match A[r]? with
 |some (.lst xs)=>(match h_ xs with
  |some bs=>R (.bl (bs.any id)) A
  |none=>False)
 |_=>False
def EB:iW:=λvs A R=>match vs with
 |[.ref r]=>anyR r A R
 |_=>False
theorem NS{mg:ay}{K:Frag}:jl mg (λxs H Q=>∃(p:Addr) (bs:FC),xs=[.ref p]/\bf K H p (bs.map V.bl)/\Q (.bl (bs.any id)) H) EB:=by
 intro ds A ι H a R Q ra rs h k;unfold EB at h;split at h
 .obtain⟨_,_,rfl,⟨_,rfl⟩,rfl⟩:=rs
  unfold anyR at h;split at h
  .rename_i xs e
   split at h
   .rename_i bs b
    obtain⟨a,h1,c⟩:=ra.lst e;exact⟨_,bs,rfl,bf.of (by rw[h1,sM b c]),k.here ra h rfl⟩
   .exact h.elim
  .exact h.elim
 .exact h.elim
theorem MH{A:Ar}{r:Nat}{xs:Bi}{bs:FC}{R:DK}(h:A[r]?=some (.lst xs))(a:h_ xs=some bs)(k:R (.bl (bs.any id)) A):anyR r A R:=by
 unfold anyR;simp only[h,a];exact k
end L2
end
namespace KO
open PySem PySem.W PyProof.Rows
section
variable{O:KeyOrd}{key:Nat->O.α}{n:Nat}{cmp:Nat->Nat->(Bool->Shared->Prop)->Shared->Prop}{s:Shared}
noncomputable def kp(O:KeyOrd)(key:Nat->O.α)(p:Array Nat)(i:Nat):O.α:=key (p.getD i 0)
def Up(O:KeyOrd)(key:Nat->O.α)(p:Array Nat)(k:Nat):Prop:=∀i j,i<=j->j<k->O.kle (kp O key p i) (kp O key p j)
def Dn(O:KeyOrd)(key:Nat->O.α)(p:Array Nat)(k:Nat):Prop:=∀i j,i<=j->j<k->O.kle (kp O key p j) (kp O key p i)
def Pm(n:Nat)(p:Array Nat):Prop:=p.Perm (range n).toArray
theorem Pm.size{p:Array Nat}(h:Pm n p):p.size=n:=by
 have:=Array.Perm.size_eq h;simpa using this
theorem Pm.lt{p:Array Nat}(h:Pm n p){i:Nat}(hi:i<n):p.getD i 0<n:=by
 have b:=h.size;have a:p[i]' ω∈p:=Array.getElem_mem _;have:=(Array.Perm.mem_iff h).mp a;rw[lR,gw ω];simpa using this
theorem uc{p q:Array Nat}{i j:Nat}(h:p[i]?=q[j]?):kp O key p i=kp O key q j:=by
 unfold kp;rw[lR,lR,h]
theorem BH{p:Array Nat}{i j:Nat}(a:j<=p.size)(k:Nat):kp O key (kas_rev p i j) k=if i<=k/\k<j then kp O key p (i+j - 1 - k) else kp O key p k:=by
 have e:=getElem?_mirror_all (xs:=p) (i:=i) a k;split
 .rename_i h;rw[aB h] at e;exact uc e
 .rename_i h;rw[av h] at e;exact uc e
theorem BG{p:Array Nat}{i j:Nat}(b:j<=p.size)(a:∀k,i<=k->k<j->kp O key p k=kp O key p (j - 1))(k:Nat):kp O key (kas_rev p i j) k=kp O key p k:=by
 rw[BH b];split
 .rw[a _ ω ω,a k ω ω]
 .rfl
theorem Pm.rev{p:Array Nat}(h:Pm n p)(i j:Nat):Pm n (kas_rev p i j):=(mirror_perm _ _ _ _).trans h
theorem Up.snoc{p:Array Nat}{x:Nat}(h:Up O key p x)(h1:1<=x)(c:O.blt (kp O key p x) (kp O key p (x - 1))=false):Up O key p (x+1):=λi j a d=>by
 by_cases b:j<x
 .exact h i j a b
 .have e:j=x:=ω
  subst e;by_cases hi:i=j
  .subst hi;exact p9 _
  .exact p_ (h i (j - 1) ω ω) c
theorem Dn.snoc{p:Array Nat}{x:Nat}(h:Dn O key p x)(h1:1<=x)(c:O.kle (kp O key p x) (kp O key p (x - 1))):Dn O key p (x+1):=λi j a d=>by
 by_cases b:j<x
 .exact h i j a b
 .have e:j=x:=ω
  subst e;by_cases hi:i=j
  .subst hi;exact p9 _
  .exact p_ c (h i (j - 1) ω ω)
variable(hc:∀i j,i<n->j<n->∀C:Bool->Shared->Prop,C (O.blt (key i) (key j)) s->cmp i j C s)
include hc
theorem sJ{α:Type}{p:Array Nat}(a:Pm n p){i j:Nat}(hi:i<n)(b:j<n){k:Bool->KasT α}{G:α->Shared->Prop}(h:(k (O.blt (kp O key p i) (kp O key p j))).kasWp cmp G s):(KasT.ask (p.getD i 0) (p.getD j 0) k).kasWp cmp G s:=
 hc _ _ (a.lt hi) (a.lt b) _ h
theorem Ab{p:Array Nat}(d:Pm n p){b:Nat}(k:b<=n){G:Nat->Shared->Prop}:∀(f a:Nat),1<=a->a+f=b->Up O key p a->
  (∀m,a<=m->m<=b->Up O key p m->(m=b\/O.klt (kp O key p m) (kp O key p (m - 1)))->G m s)->(kas_asc p f a).kasWp cmp G s
 |0,a,h1,e,c,h=>h a (aJ _) ω c (.inl ω)
 |f+1,a,h1,e,c,h=>by
  refine sJ hc d (i:=a) (j:=a - 1) ω ω ?_;cases g:O.blt (kp O key p a) (kp O key p (a - 1)) with
  |true=>rw[aB rfl];exact h a (aJ _) ω c (.inr g)
  |false=>
   rw[av cC];exact Ab d k f (a+1) ω ω (c.snoc h1 g) λm l=>h m ω
theorem wm{a:Nat}(r:a<=n){G:Array Nat×Nat×Nat->Shared->Prop}:∀(f:Nat) (p:Array Nat) (x q:Nat),Pm n p->1<=x->x+f=a->Dn O key p x->q+1<=x->(∀i,x - (q+1)<=i->i<x->kp O key p i=kp O key p (x - 1))->
  (∀b m d,Pm n b->x<=m->m<=a->Dn O key b m->d+1<=m->(∀i,m - (d+1)<=i->i<m->kp O key b i=kp O key b (m - 1))->G (b,m,d) s)->(kas_desc f p x q).kasWp cmp G s
 |0,p,x,q,g,h1,e,k,t,l,h=>h p x q g (aJ _) ω k t l
 |f+1,p,x,q,g,h1,e,k,t,l,h=>by
  have B:=g.size;refine sJ hc g (i:=x) (j:=x - 1) ω ω ?_;cases u:O.blt (kp O key p x) (kp O key p (x - 1)) with
  |true=>
   rw[aB rfl];by_cases o:q>0
   .rw[aB o]
    have y:=BG (O:=O) (key:=key) (p:=p) (i:=x - (q+1)) (j:=x) ω l;refine wm r f _ (x+1) 0 (g.rev _ _) ω ω (λi j v A=>?_) ω (λi i1 i2=>by congr 1;omega) λb m d c z=>h b m d c ω;rw[y,y];exact(k.snoc h1 (vt u)) i j v A
   .rw[av o]
    exact wm r f p (x+1) 0 g ω ω (k.snoc h1 (vt u)) ω (λi i1 i2=>by congr 1;omega) λb m d c z=>h b m d c ω
  |false=>
   rw[av cC];refine sJ hc g (i:=x - 1) (j:=x) ω ω ?_;cases hd:O.blt (kp O key p (x - 1)) (kp O key p x) with
   |true=>rw[aB rfl];exact h p x q g (aJ _) ω k t l
   |false=>
    rw[av cC];have ex:kp O key p x=kp O key p (x - 1):=KeyOrd.kle_antisymm hd u;refine wm r f p (x+1) (q+1) g ω ω (k.snoc h1 hd) ω (λi i1 i2=>?_) λb m d c z=>h b m d c ω;rw[(ω:x+1 - 1=x)];by_cases w:i=x
    .rw[w]
    .rw[ex];exact l i ω ω
theorem Lm{p:Array Nat}(b:Pm n p){m a:Nat}(e:a<=n)(h1:1<=m)(q:m<=a)(f:Dn O key p m){G:Nat×Array Nat->Shared->Prop}(h:∀k c,Pm n c->1<=k->k<=a->Up O key c k->G (k,c) s):(kas_tail3 m a p).kasWp cmp G s:=by
 have t:=b.size;unfold kas_tail3;rw[KasT.kasWp_bind];refine Ab hc (b.rev 0 m) e _ m h1 ω (λi j g r=>?_) λk l d o _=>h k _ (b.rev 0 m) ω d o;rw[BH ω,BH ω,aB ω,aB ω];exact f _ _ ω ω
theorem II{p:Array Nat}(r:Pm n p){m a:Nat}(g:a<=n)(x:m+1<=a)(t:Dn O key p (m+1)){G:Nat×Array Nat->Shared->Prop}(h:∀k c,Pm n c->1<=k->k<=a->Up O key c k->G (k,c) s):(kas_descPart m a p).kasWp cmp G s:=by
 unfold kas_descPart;rw[KasT.kasWp_bind];refine wm hc g _ p (m+1) 0 r ω ω t ω (λi i1 i2=>by congr 1;omega) λc k q b u d e y v=>?_;have z:=b.size;by_cases f:q>0
 .simp only[f,nF]
  have o:=BG (O:=O) (key:=key) (p:=c) (i:=k - (q+1)) (j:=k) ω v;refine Lm hc (b.rev _ _) g ω d (λi j l w=>?_) h;rw[o,o];exact e i j l w
 .simp only[f,gS]
  exact Lm hc b g ω d e h
theorem Nq{p:Array Nat}(b:Pm n p)(h1:1<=n){G:Nat×Array Nat->Shared->Prop}(h:∀k r,Pm n r->1<=k->k<=n->Up O key r k->G (k,r) s):(kas_count n p).kasWp cmp G s:=by
 have x:=b.size;unfold kas_count;rw[KasT.kasWp_bind];refine Ab hc b (aJ n) _ 1 (aJ _) ω (λi j a f=>by have e:i=j:=ω;rw[e];exact p9 _) λm c g o t=>?_;by_cases d:m=n
 .rw[aB (by simpa using d)]
  exact h m p b c g o
 .rw[av (by simpa using d)]
  have l:=t.resolve_left d;by_cases v:m>1
  .rw[aB v]
   refine sJ hc b (i:=0) (j:=m - 1) ω ω ?_;cases w:O.blt (kp O key p 0) (kp O key p (m - 1)) with
   |true=>rw[aB rfl];exact h m p b c g o
   |false=>
    rw[av cC];have u:∀k,0<=k->k<m->kp O key p k=kp O key p (m - 1):=λk _ q=>
     KeyOrd.kle_antisymm (o k (m - 1) ω ω) (p_ w (o 0 k ω q))
    have q:=BG (O:=O) (key:=key) (p:=p) (i:=0) (j:=m) ω u;refine II hc (b.rev 0 m) (aJ n) ω (λi j a f=>?_) h;rw[q,q];have hd:Dn O key p m:=λi j a f=>by rw[u i ω ω,u j ω f];exact p9 _
    exact(hd.snoc c (vt l)) i j a f
  .rw[av v]
   have e:m=1:=ω
   subst e;have hd:Dn O key p 1:=λi j a f=>by have e:i=j:=ω;rw[e];exact p9 _
   exact II hc b (aJ n) ω (hd.snoc (aJ _) (vt l)) h
theorem Ci{p:Array Nat}(g:Pm n p){k:Nat}(m:k<n)(d:Up O key p k){G:Nat->Shared->Prop}:∀(f l r:Nat),l<=r->r<=k->r - l<=f->(∀i,i<l->O.kle (kp O key p i) (kp O key p k))->(∀i,r<=i->i<k->O.klt (kp O key p k) (kp O key p i))->
  (∀l,l<=k->(∀i,i<l->O.kle (kp O key p i) (kp O key p k))->(∀i,l<=i->i<k->O.klt (kp O key p k) (kp O key p i))->G l s)->(kas_place p k f l r).kasWp cmp G s
 |0,l,r,o,q,u,a,b,h=>by
  have e:l=r:=ω
  exact h l ω a (e▸b)
 |f+1,l,r,o,q,u,a,b,h=>by
  unfold kas_place;by_cases c:l≥r
  .rw[aB c]
   have e:l=r:=ω
   exact h l ω a (e▸b)
  .rw[av c]
   refine sJ hc g (i:=k) (j:=(l+r)/2) m ω ?_;cases t:O.blt (kp O key p k) (kp O key p ((l+r)/2)) with
   |true=>
    rw[aB rfl];exact Ci g m d f l ((l+r)/2) ω ω ω a (λi i1 i2=>KeyOrd.klt_of_klt_of_kle t (d _ _ i1 i2)) h
   |false=>
    rw[av cC];exact Ci g m d f ((l+r)/2+1) r ω ω ω (λi i1=>p_ (d i ((l+r)/2) ω ω) t) b h
theorem ES{G:Array Nat->Shared->Prop}(h:∀g,Pm n g->Up O key g n->G g s):∀(f:Nat) (p:Array Nat) (k:Nat),Pm n p->k+f=n->Up O key p k->(kas_bin f p k).kasWp cmp G s
 |0,p,k,b,e,d=>h p b (by rw[<-e];exact d)
 |f+1,p,k,b,e,d=>by
  have t:=b.size;unfold kas_bin;rw[KasT.kasWp_bind];refine Ci hc b ω d k 0 k ω (aJ _) ω (λi hi=>ω) (λi i1 i2=>ω) λl hl m o=>?_;refine ES h f _ (k+1) ((bubble_perm _ _ _).trans b) ω λi j q r=>?_;have c:∀x,kp O key (bubble p k (k - l)) x=if x=l then kp O key p k else if l<x/\x<=k then kp O key p (x - 1) else kp O key p x:=λx=>by
   have a:=getElem?_bubble (xs:=p) (src:=k) ω (k - l) ω x;rw[(ω:k - (k - l)=l)] at a;split
   .rename_i h1;rw[aB h1] at a;exact uc a
   .rename_i h1
    rw[av h1] at a;split
    .rename_i h2;rw[aB h2] at a;exact uc a
    .rename_i h2;rw[av h2] at a;exact uc a
  rw[c,c];repeat' split
  all_goals first
   |(exfalso;omega)
   |exact p9 _
   |exact m _ ω
   |exact vt (o _ ω ω)
   |exact d _ _ ω ω
theorem Xq{G:Array Nat->Shared->Prop}(h1:1<=n)(h:∀a,Pm n a->Up O key a n->G a s):(kas_sort n).kasWp cmp G s:=by
 unfold kas_sort;rw[KasT.kasWp_bind];refine Nq hc (Array.Perm.refl _) h1 λk p b e f c=>?_;by_cases d:k<n
 .simp only[d,nF]
  rw[(ω:max k 1=k)];exact ES hc h _ p k b ω c
 .simp only[d,gS]
  exact h p b (by rw[(ω:n=k)];exact c)
end
end KO
namespace KP
open PySem PySem.W PySem.Spec PyProof.Rows KO
section
variable{prog:Program}{w:World}{A:Around}{E:aV}{s:Shared}
theorem HR{κ:SortKind}{O:KeyOrd}{key:Nat->O.α}{a:Addr}{vs:BM}{n:Nat}{P:PySem.Fin->Shared->Prop}(m:s.heap.get? a=some (seqObj "list" vs.toArray n))(r:vs.length<64)
  (I:∀s':Shared,(∀b o,b≠a->s.heap.get? b=some o->s'.heap.get? b=some o)->2<=vs.length->∀R:SortKind->Shared->Prop,R κ s'->wpAny (model prog w) A (keyKind' vs.toArray) R (λ_ _=>False) s')
  (hc:∀s':Shared,(∀b o,b≠a->s.heap.get? b=some o->s'.heap.get? b=some o)->∀i j,i<vs.length->j<vs.length->∀C:Bool->Shared->Prop,C (O.blt (key i) (key j)) s'->kas_ask prog w A κ vs i j C s')
  (h:∀p:Array Nat,Pm vs.length p->Up O key p vs.length->P (.done (.ret .none)) {s with heap:=sortedHeap s.heap a vs (p.toList.map λi=>vs.getD i Value.none).toArray}):
  wpAny (model prog w) A (Builtin.«list.sort» ⟨[.ref a],[]⟩) P E s:=by
 rw[list_sort_plain]
 have H:a<s.heap.objs.size:=aW m
 refine ai (listItems_at m rfl ?_)
 refine ai (listUpdate_at m rfl ?_ (by rw[cE,kN];omega) (b_ _))
 obtain⟨t,g⟩:∃t,(s.heap.update a (Obj.mapSeq λ_=>(#[]:Array Value))).get? a=some (seqObj "list" #[] t):=⟨_,get?_update_seq m λ_=> #[]⟩
 refine ai (seqEpoch_at g rfl ?_)
 refine ai (wpAny_newTuple ?_ (by show vs.length<=_;rw[kN];omega))
 refine ai (vn ?_ (b_ _))
 refine fV ?_
 have c:(((s.heap.update a (Obj.mapSeq λ_=>(#[]:Array Value))).push (seqObj "tuple" vs.toArray 0)).push (seqObj "list" #[] 0)).get? a=some (seqObj "list" #[] t):=by
  rw[get?_push_ne _ _ _ (by rw[rJ,pY];exact bG (jh H)),get?_push_ne _ _ _ (by rw[pY];exact bG H)]
  exact g
 have kp:∀b o,b≠a->s.heap.get? b=some o->(((s.heap.update a (Obj.mapSeq λ_=>(#[]:Array Value))).push (seqObj "tuple" vs.toArray 0)).push (seqObj "list" #[] 0)).get? b=some o:=λb o J q=>
  bu _ (bu _ (by rw[Heap.get?_update_ne _ _ _ _ J];exact q))
 show wpAny (model prog w) A _ P E {s with heap:=((s.heap.update a (Obj.mapSeq λ_=>(#[]:Array Value))).push (seqObj "tuple" vs.toArray 0)).push (seqObj "list" #[] 0)}
 dsimp only
 by_cases h2:vs.toArray.size<2
 .rw[aB h2,aB h2]
  refine ai (aK ?_)
  rw[StateT.run_pure]
  refine ai (aK ?_)
  dsimp only
  have u:vs.length<2:=by simpa using h2
  have e:=h (range vs.length).toArray (Array.Perm.refl _) λi j K Y=>by
   have L:i=j:=ω
   rw[L];exact p9 _
  have M:(arrOf (SortSt.mk' general' (vs.toArray.zip vs.toArray) #[] 7 none)).map (·.2)=((range vs.length).toArray.toList.map λi=>vs.getD i Value.none).toArray:=by
   refine kat_snds (ks:=vs) rfl ?_
   have e:=kas_range (vs.toArray.zip vs.toArray)
   rw[(θ:(vs.toArray.zip vs.toArray).size=vs.length)] at e
   exact e.symm
  rw[M]
  refine ai (seqEpoch_at c rfl ?_)
  refine ai (listUpdate_at c rfl ?_ (b_ _) (by rw[cE,aM,pR,kN];omega))
  simp only[nQ,j5,gS]
  exact aK e
 .rw[av h2,av h2]
  have u:2<=vs.length:=by
   have:vs.toArray.size=vs.length:=θ
   omega
  obtain⟨f,v⟩:∃f:Shared,f={s with heap:=((s.heap.update a (Obj.mapSeq λ_=>(#[]:Array Value))).push (seqObj "tuple" vs.toArray 0)).push (seqObj "list" #[] 0)}:=⟨_,rfl⟩
  have k:∀b o,b≠a->s.heap.get? b=some o->f.heap.get? b=some o:=by rw[v];exact kp
  rw[<-v]
  refine ai (jA (I f k u (λl s'=>l=κ/\s'=f) ⟨rfl,rfl⟩) ?_ λ_ _ x=>x.elim)
  rintro l s' ⟨N,es⟩
  rw[N,es]
  refine ai (jA (kat_run (ks:=vs) (vs:=vs) (Q:=λd s'=>∃p:Array Nat,p.size=vs.length/\arrOf d=p.map (kas_item (vs.toArray.zip vs.toArray))/\failedOf d=none/\Pm vs.length p/\Up O key p vs.length/\s'=f)
   (G:=λp s'=>Pm vs.length p/\Up O key p vs.length/\s'=f) rfl u r (λS d s' Z a2 T U=>⟨S,Z,a2,T,U⟩)
   (Xq (O:=O) (key:=key) (hc f k) ω λp y V=>⟨y,V,rfl⟩)) ?_ λ_ _ e=>e)
  rintro ⟨⟨⟩,d⟩ W ⟨p,y,z,X,B,D,F⟩
  dsimp only
  rw[F]
  rw[kat_snds rfl z]
  subst v
  refine ai (seqEpoch_at c rfl ?_)
  refine ai (listUpdate_at c rfl ?_ (b_ _) (by rw[cE,aM,iB,y,kN];omega))
  rw[X]
  simp only[nQ,j5,gS]
  exact aK (h p B D)
theorem Xr{κ:SortKind}{O:KeyOrd}{key:Nat->O.α}{l:Addr}{vs:BM}{Q:aV}(hl:s.heap.IsList l vs.toArray)(d:vs.length<64)
  (f:∀s':Shared,(∀b o,s.heap.get? b=some o->s'.heap.get? b=some o)->2<=vs.length->∀R:SortKind->Shared->Prop,R κ s'->wpAny (model prog w) A.in1.in1 (keyKind' vs.toArray) R (λ_ _=>False) s')
  (hc:∀s':Shared,(∀b o,s.heap.get? b=some o->s'.heap.get? b=some o)->∀i j,i<vs.length->j<vs.length->∀C:Bool->Shared->Prop,C (O.blt (key i) (key j)) s'->kas_ask prog w A.in1.in1 κ vs i j C s')
  (h:∀(p:Array Nat) (h':Heap) (D:Addr) (e:Nat),Pm vs.length p->Up O key p vs.length->s.heap.objs.size<=D->h'.get? D=some (seqObj "list" (p.toList.map λi=>vs.getD i Value.none).toArray e)->(∀b o,s.heap.get? b=some o->h'.get? b=some o)->Q (.ref D) {s with heap:=h'}):
  wpAny (model prog w) A (call (.builtin "sorted") [.ref l]) Q E s:=by
 refine zc kind_sorted plain_sorted entry_sorted (args_sorted1 _) ?_
 unfold Builtin.«sorted»
 refine ai (m:=checkCount "sorted" 1 1 _) (aK ?_)
 refine ai (collect_list hl ?_ (by rw[kN];omega))
 refine ai (vn ?_ (by rw[kN];omega))
 have t:((s.heap.push (seqObj "list" #[] 0)).update s.heap.objs.size (Obj.mapSeq (·++vs.toArray))).objs.size=s.heap.objs.size+1:=by
  rw[pY,rJ]
 have a:(((s.heap.push (seqObj "list" #[] 0)).update s.heap.objs.size (Obj.mapSeq (·++vs.toArray))).push (seqObj "list" vs.toArray 0)).get? (s.heap.objs.size+1)=some (seqObj "list" vs.toArray 0):=by
  rw[<-t];exact cS _ rfl
 have keep:∀b o,s.heap.get? b=some o->(((s.heap.push (seqObj "list" #[] 0)).update s.heap.objs.size (Obj.mapSeq (·++vs.toArray))).push (seqObj "list" vs.toArray 0)).get? b=some o:=λb o q=>by
  have c:b<s.heap.objs.size:=aW q
  rw[get?_push_ne _ _ _ (by rw[t];exact bG (jh c)),Heap.get?_update_ne _ _ _ _ (bG c),get?_push_ne _ _ _ (bG c)]
  exact q
 have ne:∀b o,s.heap.get? b=some o->b≠s.heap.objs.size+1:=λb o q=>bG (jh (aW q))
 show wpAny _ _ _ _ _ {s with heap:=((s.heap.push (seqObj "list" #[] 0)).update s.heap.objs.size (Obj.mapSeq (·++vs.toArray))).push (seqObj "list" vs.toArray 0)}
 rw[t]
 refine ai (fV (jY zg ⟨_,a,rfl⟩ zz ?body (zy _)))
 case body=>
  refine HR (κ:=κ) (O:=O) (key:=key) (s:={s with heap:=((s.heap.push (seqObj "list" #[] 0)).update s.heap.objs.size (Obj.mapSeq (·++vs.toArray))).push (seqObj "list" vs.toArray 0)})
   a d (λs' k=>f s' λb o q=>k b o (ne b o q) (keep b o q)) (λs' k=>hc s' λb o q=>k b o (ne b o q) (keep b o q)) λp g n=>⟨_,rfl,aK ⟨_,rfl,?_⟩⟩
  obtain⟨e,r⟩:=zh (out:=(p.toList.map λi=>vs.getD i Value.none).toArray) a
  refine h p _ _ e g n (nG _) r λb o q=> ?_
  rw[zj (ne b o q) (aW (keep b o q))]
  exact keep b o q
theorem HQ{b fin r:Bool}{Q:Bool->Shared->Prop}(q:Q r s):∀{zs:List (Value×Value)} {i:Nat},0<i->L2.j8 .Lt A s fin r zs->KatLex prog w A b fin Q zs i s
 |[],i,hi,h=>by
  cases h with
  |nil e=>exact kat_nil (by rw[e];exact q)
 |(y,x)::zs,i,hi,h=>by
  refine kat_cons ?_;cases h with
  |eq h1 h2=>exact h1 prog w _ _ (kat_yes (HQ q ω h2))
  |ne h1 h2=>
   refine h1 prog w _ _ (kat_no ?_);have e:(b&&i==0)=false:=by
    cases i with
    |zero=>omega
    |succ i=>simp
   rw[e];exact kat_one _ _ (h2 prog w _ _ q)
theorem HB{x y:Value}{a c:Str}{xs ys:Fs}{as bs:D1}{r:Bool}{Q:Bool->Shared->Prop}(e:L2.ltQ (.tuple (.str a::xs)) (.tuple (.str c::ys))=some r)(t:Reads s.heap x (.tuple (.str a::xs)) as)(u:Reads s.heap y (.tuple (.str c::ys)) bs)
  (v:canLay0 (.tuple (.str a::xs))=true)(z:canLay0 (.tuple (.str c::ys))=true)(j:A.units+min (depthAll (.str a::xs)) (depthAll (.str c::ys))<cLine)(q:Q r s):wpAny (model prog w) A (keyLt' (tuples' true) x y) Q E s:=by
 cases t with
 | @tuple l o vs n _ h h1 h2 B k=>
  cases u with
  | @tuple F o' b n' _ i J M K m=>
   refine kat_lt h1 B J K ?_;rw[L2.ltQ] at e;have H:decide (vs.size<b.size)=decide (vs.toList.length<b.toList.length):=θ
   rw[H];generalize vs.toList=G at k ⊢;generalize b.toList=C at m ⊢;have d:canLay0 (.str a)=true/\canLayAll0 xs=true:=by simpa[canLay0,canLayAll0] using v
   have f:canLay0 (.str c)=true/\canLayAll0 ys=true:=by simpa[canLay0,canLayAll0] using z
   cases k with
   |cons I L=>
    cases m with
    |cons p D=>
     have g:=SeqAt.eqAt_reads (.str a) (.str c) A s _ _ _ _ I p d.1 f.1 (SeqAt.room_head j);cases I;cases p;rw[List.zip_cons_cons,L2.HN];refine kat_cons ?_;rw[L2.eV] at e;cases ce:PyData.eqv (.str a) (.str c) with
     |true=>
      rw[ce] at e g;exact g prog w _ _ (kat_yes (HQ q ω (L2.BP xs ys A s _ _ _ _ r e L D d.2 f.2 (SeqAt.room_tail j))))
     |false=>
      rw[ce] at e g;refine g prog w _ _ (kat_no (oneLt_str ?_));have e:L2.ltQ (.str a) (.str c)=some r:=e;rw[L2.ltQ] at e;cases e;exact q
end
end KP
section
open PySem PySem.Spec PyProof.Rows
namespace L2
open PySem.SeqAt
theorem Ox{xs ys:Fs}{u:Nat}(h1:(PyData.tuple xs).depth<=60)(a:u+64<cLine):u+2+min (depthAll xs) (depthAll ys)<cLine:=by
 have e:(PyData.tuple xs).depth=depthAll xs+1:=rfl;omega
theorem kat_tups{h:Heap}:∀{vs:BM} {qs:Fs},vs.length=qs.length->(∀(i:Nat) v q,vs[i]?=some v->qs[i]?=some q->∃as x r,Reads h v q as/\q=.tuple (.str x::r))->∃fs:BM,fs.length=vs.length/\PySem.W.KatTups h vs fs/\∀v∈fs,∃x t,v=Value.str x t
 |[],[],_,_=>⟨[],rfl,.nil,λ_ h=>by cases h⟩
 |v::vs,q::qs,e,k=>by
  obtain⟨fs,h1,h2,c⟩:=kat_tups (vs:=vs) (qs:=qs) (by simpa using e) λi d f g j=>k (i+1) d f (by simpa using g) (by simpa using j);obtain⟨as,x,r,rd,rfl⟩:=k 0 v q rfl rfl;cases rd with
  | @tuple l o m n _ a p s u b=>
   generalize w:m.toList=ul at b;cases b with
   | @cons y vr _ _ _ _ z A=>
    cases z with
    |str _ t=>
     refine⟨Value.str x t::fs,by simp[h1],.cons p s u ?_ h2,λv hv=>?_⟩
     .rw[<-nY,w];rfl
     .rcases bx.mp hv with rfl|hv
      .exact⟨x,t,rfl⟩
      .exact c v hv
variable{X:Cx}
theorem E1(hc:X.calm=true)(hu:X.A.units+64<cLine):fy X (.builtin "sorted") (λxs H Q=>∃(a:Addr) (vs:Bn) (qs:Fs) (O:KeyOrd) (key:Nat->O.α),xs=[.ref a]/\bf X.K H a vs/\vs.length<64/\vs.length=qs.length/\
  (∀(i:Nat) v q,vs[i]? =some v->qs[i]? =some q->Dp X.K H v q/\q.canLay0=true/\q.depth<=60/\∃x r,q= .tuple (.str x::r))/\(∀(i j:Nat) p q,qs[i]? =some p->qs[j]? =some q->ltQ p q=some (O.blt (key i) (key j)))/\
  ∀(l:Addr) (p:Array Nat),H l=none->KO.Pm vs.length p->KO.Up O key p vs.length->Q (.ref l) (ax H l (.lst (p.toList.map λi=>vs.getD i .aD)))):=by
 intro ae s σ H xs us Q I r h
 obtain⟨a,vs,qs,O,key,rfl,hq,B,hl,hd,hk,q⟩:=h
 obtain⟨u,rfl,ru⟩:=vals1 r
 cases ru
 obtain⟨V,E,pl,hz⟩:=I.list hq
 have F:=E.length
 have rd:∀(i:Nat) u p,V[i]? =some u->qs[i]? =some p->∃as x r,Reads s.heap u p as/\p= .tuple (.str x::r)/\p.canLay0=true/\p.depth<=60:=λi u p k G=>by
  have hi:i<V.length:=(bK.mp k).1
  obtain⟨u',m,J⟩:=Vals.get E (aS (ω:i<vs.length))
  rw[k] at m
  cases m
  obtain⟨d1,d2,d3,x,r,d4⟩:=hd i _ p (aS (ω:i<vs.length)) G
  obtain⟨as,d5⟩:=Dp.reads I p _ u d1 J
  exact⟨as,x,r,d5,d4,d2,d3⟩
 refine KP.Xr (κ:=tuples' true) (O:=O) (key:=key) (vs:=V) pl.isList ω (λs' kp h2 R hR=> ?_) (λs' kp i j hi hj C hC=> ?_) λp h' D e L d hD ho kp=> ?_
 .obtain⟨fs,f1,f2,f3⟩:=kat_tups (h:=s'.heap) (vs:=V) (qs:=qs) ω λi v q k G=>by
   obtain⟨as,x,r,n,M,_⟩:=rd i v q k G
   exact⟨as,x,r,PyProof.Rows.Reads.keeps kp n,M⟩
  refine kat_kind (T:=Value.type "str") f2 ω (λv hv=> ?_) δ hR
  obtain⟨x,t,rfl⟩:=f3 v hv
  exact PySem.W.Looks.of_pure rfl
 .have N:=aS hi
  have P:=aS hj
  have S:=aS (ω:i<qs.length)
  have U:=aS (ω:j<qs.length)
  obtain⟨as,x,r,n,M,Y,Z⟩:=rd i _ _ N S
  obtain⟨bs,y,t,k1,k2,k3,k4⟩:=rd j _ _ P U
  have c:=hk i j _ _ S U
  rw[M] at n Y Z c
  rw[k2] at k1 k3 c
  unfold PySem.W.kas_ask
  rw[cO,cO,N,P]
  exact KP.HB c (PyProof.Rows.Reads.keeps kp n) (PyProof.Rows.Reads.keeps kp k1) Y k3 (Ox Z hu) hC
 .have f:∀u,s.heap.get? D≠some u:=λu z=>absurd (dj (aW z) hD) (gu _)
  have hn:H D=none:=by
   cases e0:H D with
   |none=>rfl
   |some o=>
    obtain⟨u,z⟩:=(I.ar _ _ e0).obj
    exact absurd z (f u)
  rw[<-F] at L d
  refine⟨.ref D,ax H D (.lst (p.toList.map λi=>vs.getD i .aD)),?_,rfl,q D p hn L d⟩
  refine I.xE (t':=s.toks) kp (g_.new hn _) λb o w=> ?_
  by_cases hb:b=D
  .subst hb
   rw[dZ] at w
   cases w
   refine .inr ⟨f,?_⟩
   refine⟨by rw[aM,iB,L.size];exact gK (dj B δ),p.toList.map λi=>V.getD i Value.none,e,?_,ho⟩
   generalize p.toList=g
   induction g with
   |nil=>exact .nil
   |cons i g ih=>
    refine .cons ?_ ih
    show RelV (vs.getD i .aD) (V.getD i Value.none)
    rw[cO,cO]
    by_cases hi:i<vs.length
    .obtain⟨u',m,J⟩:=Vals.get E (aS hi)
     rw[aS hi,m]
     exact J
    .rw[nX ω,nX ω]
     rfl
  .rw[aY hb] at w
   exact .inl w
@[irreducible] def yM(r:Nat)(A:Ar)(R:DK):Prop:=match A[r]? with
 |some (.lst ds)=>ds.length<64/\(∀d∈ds,fS d=true/\(toQ d).canLay0=true/\(toQ d).depth<=60/\∃x r,toQ d=.tuple (.str x::r))/\
  ∃(O:KeyOrd) (key:D->O.α),(∀d∈ds,∀e∈ds,ltQ (toQ d) (toQ e)=some (O.blt (key d) (key e)))/\∀es:Bi,es.Perm ds->es.Pairwise (λa b=>O.kle (key a) (key b))->R (.ref A.length) (A++[.lst es])
 |_=>False
def La:iW:=λvs A R=>match vs with
 |[.ref r]=>yM r A R
 |_=>False
theorem Ia{α:Type}(d:α):∀(l:List α),(range l.length).map (λi=>l.getD i d)=l:=λl=>by
 apply List.ext_getElem
 .simp
 .intro i h1 h2
  simp[h2]
theorem Fq{mg:ay}{K:Frag}:jl mg (λxs H Q=>∃(a:Addr) (vs:Bn) (V:Fs) (O:KeyOrd) (key:Nat->O.α),xs=[.ref a]/\bf K H a vs/\vs.length<64/\vs.length=V.length/\
  (∀(i:Nat) v q,vs[i]? =some v->V[i]? =some q->Dp K H v q/\q.canLay0=true/\q.depth<=60/\∃x r,q= .tuple (.str x::r))/\(∀(i j:Nat) p q,V[i]? =some p->V[j]? =some q->ltQ p q=some (O.blt (key i) (key j)))/\
  ∀(l:Addr) (p:Array Nat),H l=none->KO.Pm vs.length p->KO.Up O key p vs.length->Q (.ref l) (ax H l (.lst (p.toList.map λi=>vs.getD i .aD)))) La:=by
 intro ds A ι H T R Q ra rs h k
 unfold La at h
 split at h
 .obtain⟨_,_,rfl,⟨_,rfl⟩,rfl⟩:=rs
  unfold yM at h
  split at h
  .rename_i ds e
   obtain⟨C,hd,O,key,E,q⟩:=h
   obtain⟨xs,F,t⟩:=ra.lst e
   have hl:=aj.length t
   refine⟨_,xs,ds.map toQ,O,λi=>key (ds.getD i .aD),rfl,bf.of F,ω,by simp[hl],λi v p c b=> ?_,λi j p U c b=> ?_,λl p G n g=> ?_⟩
   .rw[bz] at b
    cases f:ds[i]? with
    |none=>rw[f] at b;cases b
    |some d=>
     rw[f] at b
     cases b
     obtain⟨I,o,u⟩:=aj.get t f
     rw[c] at o
     cases o
     obtain⟨J,p2,L,M⟩:=hd d (cF f)
     exact⟨RV.dp _ _ J u,p2,L,M⟩
   .rw[bz] at c b
    cases f:ds[i]? with
    |none=>rw[f] at c;cases c
    |some d=>
     cases s:ds[j]? with
     |none=>rw[s] at b;cases b
     |some W=>
      rw[f] at c
      rw[s] at b
      cases c
      cases b
      show ltQ (toQ d) (toQ W)=some (O.blt (key (ds.getD i .aD)) (key (ds.getD j .aD)))
      rw[cO,cO,f,s]
      exact E d (cF f) W (cF s)
   .rw[<-hl] at n g
    have X:=n.size
    have w:(p.toList.map λi=>ds.getD i .aD).Perm ds:=by
     have:=(Df.mp n).map λi=>ds.getD i D.aD
     rwa [Ia] at this
    refine kF k ra (ds:=p.toList.map λi=>ds.getD i .aD) ?_ (q _ w ?_) G
    .refine aj.of_get θ λi d v c b=> ?_
     rw[bz] at c b
     cases ep:p.toList[i]? with
     |none=>rw[ep] at c;cases c
     |some m=>
      rw[ep] at c b
      have N:m<ds.length:=by
       have:=(Df.mp n).mem_iff.mp (cF ep)
       simpa using this
      have z:=aS N
      obtain⟨I,o,u⟩:=aj.get t z
      have c:some (ds.getD m .aD)=some d:=c
      have b:some (xs.getD m .aD)=some v:=b
      rw[cO,z] at c
      rw[cO,o] at b
      cases c
      cases b
      exact u
    .rw[jy,List.pairwise_iff_getElem]
     intro i j hi B y
     have:=g i j (gK y) (by simpa[X] using B)
     unfold KO.kp at this
     have P:p.getD i 0=p.toList[i]:=by
      rw[lR,gw (by simpa using hi)]
      simp
     have S:p.getD j 0=p.toList[j]:=by
      rw[lR,gw (by simpa using B)]
      simp
     rw[P,S] at this
     exact this
  .exact h.elim
 .exact h.elim
theorem Lb{A:Ar}{r:Nat}{ds:Bi}{R:DK}(O:KeyOrd)(key:D->O.α)(h:A[r]?=some (.lst ds))(c:ds.length<64)(hd:∀d∈ds,fS d=true/\(toQ d).canLay0=true/\(toQ d).depth<=60/\∃x r,toQ d=.tuple (.str x::r))
  (f:∀d∈ds,∀e∈ds,ltQ (toQ d) (toQ e)=some (O.blt (key d) (key e)))(k:∀es:Bi,es.Perm ds->es.Pairwise (λa b=>O.kle (key a) (key b))->R (.ref A.length) (A++[.lst es])):yM r A R:=by
 unfold yM;simp only[h];exact⟨c,hd,O,key,f,k⟩
noncomputable def q_(P Q:KeyOrd):KeyOrd where
 α:=P.α×Q.α
 blt a b:=P.blt a.1 b.1||(!P.blt b.1 a.1&&Q.blt a.2 b.2)
 irrefl a:=by simp[P.irrefl,Q.irrefl]
 trans a b c h1 h2:=by
  obtain⟨a1,a2⟩:=a
  obtain⟨b1,b2⟩:=b
  obtain⟨c1,c2⟩:=c
  simp only[or_eq_true,fX,vg] at h1 h2 ⊢
  rcases h1 with h1|⟨h1,k1⟩
  .refine .inl ?_
   rcases h2 with h2|⟨h2,_⟩
   .exact P.trans _ _ _ h1 h2
   .exact KeyOrd.klt_of_klt_of_kle h1 h2
  .rcases h2 with h2|⟨h2,k2⟩
   .exact .inl (KeyOrd.klt_of_kle_of_klt h1 h2)
   .exact .inr ⟨p_ h1 h2,Q.trans _ _ _ k1 k2⟩
 negTrans a b c h:=by
  obtain⟨a1,a2⟩:=a
  obtain⟨b1,b2⟩:=b
  obtain⟨c1,c2⟩:=c
  simp only[or_eq_true,fX,vg] at h ⊢
  rcases h with h|⟨h,k⟩
  .rcases P.negTrans _ b1 _ h with h|h
   .exact .inl (.inl h)
   .exact .inr (.inl h)
  .cases e1:P.blt a1 b1 with
   |true=>exact .inl (.inl rfl)
   |false=>
    cases e2:P.blt b1 c1 with
    |true=>exact .inr (.inl rfl)
    |false=>
     have x1:P.blt b1 a1=false:=p_ (O:=P) (a:=a1) (b:=c1) (c:=b1) h e2
     have x2:P.blt c1 b1=false:=p_ (O:=P) (a:=b1) (b:=a1) (c:=c1) e1 h
     rcases Q.negTrans _ b2 _ k with k|k
     .exact .inl (.inr ⟨x1,k⟩)
     .exact .inr (.inr ⟨x2,k⟩)
 total a b h1 h2:=by
  obtain⟨a1,a2⟩:=a
  obtain⟨b1,b2⟩:=b
  simp only[Bool.or_eq_false_iff] at h1 h2
  have e:=P.total _ _ h1.1 h2.1
  subst e
  simp only[P.irrefl,Bool.not_false,Bool.true_and,true_and] at h1 h2
  rw[Q.total _ _ h1 h2]
noncomputable def wZ:KeyOrd where
 α:=Int
 blt a b:=decide (a<b)
 irrefl a:=θ
 trans a b c h1 h2:=by simp only[jj] at*;omega
 negTrans a b c h:=by simp only[jj] at*;omega
 total a b h1 h2:=by simp only[Dz] at*;omega
abbrev eB:KeyOrd:=strKind.toKeyOrd
theorem CM{a b:Str}(h:a.cps.toList=b.cps.toList):a=b:=by
 cases a;cases b;simp at h;simpa using Array.toList_inj.mp (by simpa using h)
theorem S_{a b:Str}{O:KeyOrd}{x y:O.α}{xs ys:Fs}(h:eV xs ys=some (O.blt x y)):ltQ (.tuple (.str a::xs)) (.tuple (.str b::ys))=some ((q_ eB O).blt (a.cps.toList,x) (b.cps.toList,y)):=by
 rw[ltQ,eV];cases c:PyData.eqv (.str a) (.str b) with
 |true=>
  have e:a=b:=by simpa[PyData.eqv] using c
  subst e;show eV xs ys=_;rw[h];show some (O.blt x y)=some (eB.blt a.cps.toList a.cps.toList||(!eB.blt a.cps.toList a.cps.toList&&O.blt x y));have d:eB.blt a.cps.toList a.cps.toList=false:=eB.irrefl _;rw[d];simp
 |false=>
  have e:a≠b:=by
   intro z;subst z;simp[PyData.eqv] at c
  show ltQ (.str a) (.str b)=some (eB.blt a.cps.toList b.cps.toList||(!eB.blt b.cps.toList a.cps.toList&&O.blt x y));rw[ltQ];show some (eB.blt a.cps.toList b.cps.toList)=_;cases f:eB.blt a.cps.toList b.cps.toList with
  |true=>rfl
  |false=>
   cases g:eB.blt b.cps.toList a.cps.toList with
   |true=>rfl
   |false=>exact absurd (CM (eB.total _ _ f g)) e
theorem S8{i j:Int}{O:KeyOrd}{x y:O.α}{xs ys:Fs}(h:eV xs ys=some (O.blt x y)):eV (.int i::xs) (.int j::ys)=some ((q_ wZ O).blt (i,x) (j,y)):=by
 rw[eV];show _=some (decide (i<j)||(!decide (j<i)&&O.blt x y));cases c:PyData.eqv (.int i) (.int j) with
 |true=>
  have e:i=j:=by simpa[PyData.eqv] using c
  subst e;show eV xs ys=_;rw[h];simp
 |false=>
  have e:i≠j:=by simpa[PyData.eqv] using c
  show ltQ (.int i) (.int j)=_;rw[ltQ];by_cases a:i<j
  .simp[a]
  .have b:j<i:=ω
   simp[a,b]
noncomputable def u0:KeyOrd where
 α:=Unit
 blt _ _:=false
 irrefl _:=rfl
 trans _ _ _ h _:=by cases h
 negTrans _ _ _ h:=by cases h
 total _ _ _ _:=rfl
abbrev κa:Str:="_law_script"
abbrev κb:Str:="_law_name"
abbrev κc:Str:="by_place"
abbrev κd:Str:="_law_hall_here"
abbrev κe:Str:="_law_town"
abbrev κf:Str:="_law_book"
abbrev κg:Str:="_law_often"
abbrev κh:Str:="thing"
abbrev κi:Str:="name"
abbrev κj:Str:="other"
abbrev κk:Str:="mobile"
abbrev κl:Str:="_law_mobile"
abbrev κm:Str:="_law_way"
abbrev κn:Str:="_law_heavy_here"
abbrev κo:Str:="place"
abbrev κp:Str:="paths"
abbrev κq:Str:="fractions"
abbrev κr:Str:="_law_down"
abbrev κs:Str:="_law_one"
abbrev κt:Str:="_law_number"
abbrev κu:Str:="_law_k"
abbrev κv:Str:="_law_up"
abbrev κw:Str:="_law_other"
abbrev κx:Str:="_law_names"
abbrev κy:Str:="_law_found"
abbrev κz:Str:="_law_many"
abbrev κA:Str:="_law_some"
abbrev κB:Str:="share"
abbrev κC:Str:="steps"
abbrev κD:Str:="told"
theorem S9:eV [] []=some (u0.blt () ()):=rfl
theorem vW(hc:X.calm=true):fy X (.type "list") (λxs H Q=>∃(d:Addr) (kvs:List (Key×V)) (ns:Ap),xs=[.ref d]/\H d=some (.dK kvs)/\kvs.map (·.1)=ns.map Sum.inr/\ns.length<=1000/\∀l:Addr,H l=none->Q (.ref l) (ax H l (.lst (ns.map V.str)))):=by
 intro ae s σ H xs S Q I r h;obtain⟨d,kvs,ns,rfl,hd,A,T,q⟩:=h;obtain⟨u,rfl,F⟩:=vals1 r;cases F;obtain⟨hz,G,vs,rel,Y⟩:=(show b9 X.prog X.w H s.heap d (.dK kvs) from I.ar d _ hd);obtain⟨ep,j⟩:=Y.dictAt;have c:kvs.length=ns.length:=by
  have:=bM List.length A;simpa using this
 have e:vs.length=ns.length:=by rw[<-rel.len,c]
 have m:(1000:Nat)<=sizeLine:=δ
 refine PySem.W.kdl_call (kdl_dict (knd:=c9 X.prog X.w) (kvs:=vs) (ep:=ep) G) (I.ok.hd hc) j (by rw[e];omega) λh' J acc Z k1 K a=>?_;have n:StrsAre acc.toList ns:=by
  refine CN (by rw[iB,a.1,e]) λi v x B L=>?_;rw[nY] at B;obtain⟨k,y,M,C⟩:=a.2 i v B;obtain⟨p,N,O,_⟩:=rel.at M;have D:(kvs.map (·.1))[i]?=some k:=by rw[bz,N];exact bM some O
  rw[A,bz,L] at D;have P:k=Sum.inr x:=(Option.some.inj D).symm;rw[P] at C;rcases ja (show kC (Sum.inr x) v=true from C) with⟨_,_,z,_⟩|⟨U,t,z,R⟩
  .cases z
  .cases z;exact⟨t,R⟩
 have f:H s.heap.objs.size=none:=I.ar.fresh (aJ _);refine⟨.ref s.heap.objs.size,ax H s.heap.objs.size (.lst (ns.map V.str)),?_,rfl,q _ f⟩;refine I.xE (t':=J) k1 (g_.new f _) λb o g=>?_;by_cases E:b=s.heap.objs.size
 .subst E
  rw[dZ] at g;cases g;refine .inr ⟨λu z=>gu _ (aW z),?_⟩;refine⟨by rw[aM];omega,acc.toList,Z,yZ n,?_⟩;rw[zk];exact K
 .rw[aY E] at g
  exact .inl g
@[irreducible] def xy(r:Nat)(A:Ar)(R:DK):Prop:=∃(kvs:List (Key×D)) (ns:Ap),A[r]?=some (.dct kvs)/\kvs.map (·.1)=ns.map Sum.inr/\ns.length<=1000/\R (.ref A.length) (A++[.lst (ns.map D.str)])
def HX:iW:=λvs A R=>match vs with
 |[.ref r]=>xy r A R
 |_=>False
theorem xA{A:Ar}{r:Nat}{kvs:List (Key×D)}{ns:Ap}{R:DK}(h:A[r]?=some (.dct kvs))(a:kvs.map (·.1)=ns.map Sum.inr)(b:ns.length<=1000)(k:R (.ref A.length) (A++[.lst (ns.map D.str)])):xy r A R:=by
 unfold xy;exact⟨kvs,ns,h,a,b,k⟩
theorem RK.HC{mg:ay}{ι:Io}{n:Nat}{H:Hp}:∀{ds:List (Key×D)} {vs:List (Key×V)},RK mg ι n H ds vs->vs.map (·.1)=ds.map (·.1)
 |[],vs,h=>by have h:vs=[]:=h;rw[h];rfl
 |p::ds,vs,h=>by
  obtain⟨x,r,rfl,h1,h2⟩:=h;simp[RK.HC h2]
theorem aj.Lh{mg:ay}{ι:Io}{n:Nat}{H:Hp}:∀ns:Ap,aj mg ι n H (ns.map D.str) (ns.map V.str)
 |[]=>rfl
 |x::ns=>⟨_,_,rfl,rfl,aj.Lh ns⟩
theorem wc{mg:ay}:jl mg (λxs H Q=>∃(d:Addr) (kvs:List (Key×V)) (ns:Ap),xs=[.ref d]/\H d=some (.dK kvs)/\kvs.map (·.1)=ns.map Sum.inr/\ns.length<=1000/\∀l:Addr,H l=none->Q (.ref l) (ax H l (.lst (ns.map V.str)))) HX:=by
 intro ds A ι H f R Q ra rs h k;unfold HX at h;split at h
 .obtain⟨_,_,rfl,⟨_,rfl⟩,rfl⟩:=rs
  unfold xy at h;obtain⟨kvs,ns,h1,h2,a,b⟩:=h;obtain⟨xs,c,e⟩:=ra.dct h1;exact⟨_,xs,ns,rfl,c,by rw[RK.HC e];exact h2,a,λl hl=>kF k ra (aj.Lh ns) b hl⟩
 .exact h.elim
abbrev TJ:=St->Hp->Str->(Str->Hp->Prop)->Prop
def PJ(X:Cx)(es:DD)(t:TJ):Prop:=∀(ae:aZ) (s:Shared) (σ:St) (H:Hp) (acc:Str) (Q:Str->Hp->Prop),Inv X ae σ H s->t σ H acc Q->
 Joins (model X.prog X.w) X.A X.xe (evalEach es X.env) acc (λout s'=>∃H',Inv X ae σ H' s'/\Q out H') s
noncomputable def A_:V->Option Str
 |.str y=>some y
 |.int i=>if i.natAbs.log2<1920 then some (Str.ofString (toString i)) else none
 |_=>none
section
variable{es:DD}{t:TJ}{te:TE}{e:Expr}{p pos:Pos}
theorem vQ(x y:Str):(x++y).length=x.length+y.length:=size_append
theorem Vu:PJ X [] (λσ H acc Q=>Q acc H):=λae s σ H acc Q I h=>⟨H,I,h⟩
theorem Vt{x:Str}{k:Nat}(h:PJ X es t):PJ X (.Constant (.str x) k p::es) (λσ H acc Q=>acc.length+x.length<=sizeLine/\t σ H (acc++x) Q):=λae s σ H acc Q I q=>by
 show wpAny _ _ (eval (.Constant (.str x) k p) X.env) _ _ _;exact Calls.Constant_str ⟨x,_,rfl,by rw[vQ];exact q.1,h ae _ σ H (acc++x) Q (I.tok _) q.2⟩
theorem Vv(g:PE X e te)(h:PJ X es t):PJ X (.FormattedValue e (-1) none p::es) (λσ H acc Q=>te σ H λv H1=>∃y,A_ v=some y/\y.length<=sizeLine/\acc.length+y.length<=sizeLine/\t σ H1 (acc++y) Q):=λae s σ H acc Q I q=>by
 show wpAny _ _ (eval (.FormattedValue e (-1) none p) X.env) _ _ _;refine wpAny_FormattedValue_plain (aQ (g ae s σ H _ I q) λu k ⟨v,H1,b,d,y,a,j,hl,c⟩=>?_);cases v with
 |str z=>
  cases (show some z=some y from a);obtain⟨f,rfl⟩:=d;refine wpAny_formatField_str ?_ ?_ j
  .exact⟨_,f,rfl,by rw[vQ];exact hl,h ae _ σ H1 _ Q b c⟩
  .exact⟨_,_,rfl,by rw[vQ];exact hl,h ae _ σ H1 _ Q (b.tok _) c⟩
 |int i=>
  obtain⟨f,rfl⟩:=d;unfold A_ at a;simp only at a;split at a
  .rename_i hi
   cases a;refine wpAny_formatField_int hi ?_;exact⟨_,_,rfl,by rw[vQ];exact hl,h ae _ σ H1 _ Q ((b.tok _).tok _) c⟩
  .cases a
 |_=>cases a
theorem U7{c v2:Expr}{rest:DD}(h:PJ X (c::v2::rest) t):PE X (.JoinedStr (c::v2::rest) pos) (λσ H Q=>t σ H Str.empty λout H'=>out.length<=sizeLine/\Q (.str out) H'):=λae s σ H Q I q=>by
 refine wpAny_JoinedStr (a (h ae s σ H _ _ I q) ?_);rintro out s' ⟨H',d,hl,f⟩;exact⟨hl,.str out,H',d.tok _,⟨_,rfl⟩,f⟩
where
 a {M:Model} {A:Around} {E:aV}:∀{ps:List (Sem Value)} {acc:Str} {Q b:Str->Shared->Prop} {s:Shared},Joins M A E ps acc Q s->(∀o s',Q o s'->b o s')->Joins M A E ps acc b s
  |[],acc,Q,b,s,h,k=>k _ _ h
  |x::ps,acc,Q,b,s,h,k=>jA h (λv g ⟨y,t,e,hl,r⟩=>⟨y,t,e,hl,a r k⟩) λ_ _ z=>z
end
abbrev mV:=bL->Ar->Str->(Str->Ar->Prop)->Prop
def rF(mg:ay)(N:En)(m:mV):TJ:=λσ H acc Q=>∃A ι τ R,eN mg N A ι τ σ H/\m τ A acc R/\∀out A' ι' H',R out A'->Ext A ι H A' ι' H'->RA mg ι' H' A'->Q out H'
noncomputable def oH:D->Option Str
 |.str y=>some y
 |.int i=>if i.natAbs.log2<1920 then some (Str.ofString (toString i)) else none
 |_=>none
def NH:mV:=λ_ A acc R=>R acc A
def NG(x:Str)(m:mV):mV:=λτ A acc R=>acc.length+x.length<=sizeLine/\m τ A (acc++x) R
def NJ(me:aT)(m:mV):mV:=λτ A acc R=>me τ A λv A1=>match oH v with
 |some y=>y.length<=sizeLine/\acc.length+y.length<=sizeLine/\m τ A1 (acc++y) R
 |none=>False
def NI(m:mV):aT:=λτ A R=>m τ A Str.empty λout A1=>out.length<=sizeLine/\R (.str out) A1
variable{N:En}
section
variable{es:DD}{m:mV}{me:aT}{e:Expr}{p pos:Pos}
theorem PJ.w{t t':TJ}(h:PJ X es t)(w:∀σ H acc Q,t' σ H acc Q->t σ H acc Q):PJ X es t':=λae s σ H acc Q I q=>h ae s σ H acc Q I (w σ H acc Q q)
theorem OE:PJ X [] (rF X.mg N NH):=PJ.w Vu λσ H acc Q q=>by
 obtain⟨A,ι,τ,R,S,q,k⟩:=q;exact k acc A ι H q S.ra.refl S.ra
theorem FP{x:Str}{k:Nat}(h:PJ X es (rF X.mg N m)):PJ X (.Constant (.str x) k p::es) (rF X.mg N (NG x m)):=PJ.w (Vt h) λσ H acc Q q=>by
 obtain⟨A,ι,τ,R,S,q,k⟩:=q;exact⟨q.1,A,ι,τ,R,S,q.2,k⟩
theorem OF(l:PE X e (up X.mg N me))(h:PJ X es (rF X.mg N m)):PJ X (.FormattedValue e (-1) none p::es) (rF X.mg N (NJ me m)):=PJ.w (Vv l h) λσ H acc Q q=>by
 obtain⟨A,ι,τ,R,S,q,k⟩:=q;refine⟨A,ι,τ,_,S,q,λv b c H1 u a g n j=>?_⟩;have ev:A_ u=oH v\/oH v=none:=by
  cases v with
  |str y=>cases j;exact .inl rfl
  |int i=>cases j;exact .inl rfl
  |_=>exact .inr rfl
 rcases ev with ev|ev
 .cases d:oH v with
  |none=>
   have a:(match oH v with|some y=>y.length<=sizeLine/\acc.length+y.length<=sizeLine/\m τ b (acc++y) R|none=>False):=a;rw[d] at a;exact a.elim
  |some y=>
   have a:(match oH v with|some y=>y.length<=sizeLine/\acc.length+y.length<=sizeLine/\m τ b (acc++y) R|none=>False):=a;rw[d] at a;exact⟨y,ev.trans d,a.1,a.2.1,b,c,τ,R,S.next g n,a.2.2,λout o f H2 r s t=>k out o f H2 r (g.trans s) t⟩
 .have a:(match oH v with|some y=>y.length<=sizeLine/\acc.length+y.length<=sizeLine/\m τ b (acc++y) R|none=>False):=a
  rw[ev] at a;exact a.elim
theorem Oo{a v2:Expr}{rest:DD}(h:PJ X (a::v2::rest) (rF X.mg N m)):PE X (.JoinedStr (a::v2::rest) pos) (up X.mg N (NI m)):=dU (U7 h) λσ H Q q=>by
 obtain⟨A,ι,τ,R,S,q,k⟩:=q;refine⟨A,ι,τ,_,S,q,λout f c H1 b d e=>⟨b.1,(k.from d).here e b.2 rfl⟩⟩
def JH(i:Nat)(m:aT):cT:=λR τ A=>match lk τ i with
 |some (.int a)=>m τ A λy A1=>match y with
  |.int b=>R.nx (τ.set i (some (.int (a+b)))) A1
  |_=>False
 |_=>False
theorem OL{i:Nat}{x:Str}{pos':Pos}(h:X.N.Nodup)(hi:X.N[i]?=some x)(j:Loc X.env.scope x)(l:PE X e (up X.mg N me))(m:autoParam (X.fn x=true\/X.env.scope.names.lookup x=some .local) Zw):
  PS X (.AugAssign (.Name x pos') .Add e pos) (cK X.mg N (JH i me)):=i8 (VG h hi j l RW m) λQ σ H q=>by
 obtain⟨A,ι,τ,R,S,q,k⟩:=q;unfold JH at q;cases c:lk τ i with
 |none=>rw[c] at q;exact q.elim
 |some d=>
  rw[c] at q;cases d with
  |int a=>
   obtain⟨v,h1,h2⟩:=S.rs.at' i _ c;cases h2;refine⟨.int a,h1,A,ι,τ,_,S,q,λy r n H1 u f g o p=>?_⟩;cases y with
   |int b=>
    cases p;exact⟨a,b,rfl,rfl,(k.nx.from g).here ((S.next g o).set (d:=.int (a+b)) (v:=.int (a+b)) rfl) f⟩
   |_=>exact f.elim
  |_=>exact q.elim
end
theorem boot_reversed:bootBuiltins "reversed"=some (.type "reversed"):=η
noncomputable def zM(K:Frag)(a:Addr)(n:Nat):It:=
 ⟨λi H=>∃xs,bf K H a xs/\xs.length=n/\i<n,λi H x H'=>H'=H/\∀xs,bf K H a xs->xs[n - 1 - i]?=some x,λi H=>n<=i⟩
theorem Yz{P:Program}{w:World}{K:Frag}{tg:Expr}(a it:Addr)(n:Nat):Turn P w K tg (zM K a n) [it] it (λi h=>PySem.Heap.IsRevIter h it a ((n:Int) - 1 - i)/\i<=n) where
 mem:=θ
 obj:=λi h st b g=>by
  have e:b=it:=by simpa using g
  subst e
  obtain⟨⟨o,e,c,d⟩,_⟩:=st
  exact⟨o,e,λv z=>by rw[d] at z;cases z⟩
 keep:=λi h h' st k=>⟨st.1.at λo e=>k it θ o e,st.2⟩
 item:=by
  intro X q r t hc i ae s σ H E I l st m
  subst q r t
  obtain⟨xs,C,S,hi⟩:=m
  obtain⟨U,F,p,W⟩:=I.list C
  have D:xs[n - 1 - i]? =some (xs[n - 1 - i]' ω):=aS ω
  obtain⟨u,G,J⟩:=F.get D
  obtain⟨f0,T,V,y,f4,A⟩:=l it θ
  have B:(n:Int) - 1 - i=((n - 1 - i:Nat):Int):=ω
  have f:=st.1
  rw[B] at f
  refine PySem.wpAny_pyNext_rev_item f p.isList (x:=u) (by simpa using G) λh' j L=> ?_
  have M:Inv X ae σ H {s with heap:=h'}:=I.turned (t':=s.toks) (λb o g e=>(L.2 b g).trans e) f0 T y f4 A
  obtain⟨o,e,c,d⟩:=id j
  refine⟨u,rfl,tN (s:={s with heap:=h'}) e c d δ ⟨_,H,M,J,⟨rfl,λys N=>by rw[I.BQ N C];exact D⟩,⟨?_,ω⟩,λb g=>(l b g).1⟩⟩
  have O:(n:Int) - 1 - ((i+1:Nat):Int)=((n - 1 - i:Nat):Int) - 1:=ω
  rw[O]
  exact j
 done:=by
  intro X q r t hc i ae s σ H E I l st m
  subst q r t
  have m:n<=i:=m
  obtain⟨f0,T,V,y,f4,A⟩:=l it θ
  obtain⟨f,Q⟩:=st
  have B:(n:Int) - 1 - i= -1:=ω
  rw[B] at f
  exact PySem.wpAny_pyNext_rev_end (I.ok.hd hc) f λh' R=>⟨rfl,I.turned (t':=s.toks) (λb o g e=>R b o g e) f0 T y f4 A⟩
 self:=λ_ _ _ _ _ st h=>PySem.wpAny_pyIter_revIter st.1 h
def RH(K:Frag)(ta:TA):TI:=λσ H R=>ta σ H λvs H1=>∃a xs,vs=[.ref a]/\bf K H1 a xs/\R (zM K a xs.length) H1
theorem Vp{tg l:Expr}{ta:TA}{p pos:Pos}(f:Gl X "reversed")(g:X.mg "reversed"=none)(i:PA X [l] ta)(j:starEach [l] X.env=[(false,eval l X.env)]:=by rfl):
  PI X tg (.Call (.Name "reversed" p) [l] [] pos) (RH X.K ta):=by
 intro ae s σ H R I h;refine Call_ (jr I f g boot_reversed (mK (aQ (i pos ae s σ H _ I h) λw c ⟨vs,H1,d,k,m⟩=>?_) j rfl));obtain⟨a,xs,e,n,q⟩:=m;subst e;obtain⟨u,rfl,r⟩:=vals1 k;cases r;obtain⟨x,t,pl,y⟩:=d.list n;have hl:=t.length;refine PySem.call_reversed_list pl.isList ?_;have st:PySem.Heap.IsRevIter (c.heap.push (PySem.revObj a ((x.toArray.size:Int) - 1))) c.heap.objs.size a ((xs.length:Int) - 1 - (0:Nat)):=by
  refine⟨_,cS _ rfl,rfl,?_⟩;have e:((x.toArray.size:Int) - 1)=((xs.length:Int) - 1 - (0:Nat)):=by simp;omega
  rw[<-e];rfl
 refine PySem.wpAny_pyIter_revIter st ⟨c.heap.objs.size,[c.heap.objs.size],_,_,H1,rfl,d.kept (t':=c.toks) λb o e=>bu _ e,Yz a _ _,⟨st,b_ _⟩,λb v=>?_,q⟩;have e:b=c.heap.objs.size:=by simpa using v
 subst e;exact d.ng (aJ _) (d.ar.fresh (aJ _))
section
variable{mg:ay}{K:Frag}{A:Ar}{ι:Io}{H:Hp}
def i9(ds:Bi):Bi:=ds.zipIdx.map λp=>D.tup [.int ((p.2:Nat):Int),p.1]
theorem OX{ds:Bi}{i:Nat}{d:D}(h:(i9 ds)[i]?=some d):∃x,ds[i]?=some x/\d=.tup [.int ((i:Nat):Int),x]:=by
 unfold i9 at h;rw[bz,Ds] at h;cases e:ds[i]? with
 |none=>rw[e] at h;cases h
 |some x=>
  rw[e] at h;simp at h;exact⟨x,rfl,h.symm⟩
theorem R_{q:Nat}{ds:Bi}(f:q<A.length):lX mg A ι H (zJ K (ι q)) (i9 ds) (λA'=>A'[q]?=some (.lst ds)) where
 go:=λi d c a H1 hd e r hc=>by
  obtain⟨xs,h1,h2⟩:=r.lst hc;rw[e.ag q f] at h1;obtain⟨x,j,rfl⟩:=OX hd;obtain⟨v,g,k⟩:=aj.get h2 j;refine⟨⟨xs,v,bf.of h1,g⟩,λy H' z=>?_⟩;obtain⟨p,m,h,rfl,rfl,l⟩:=z;have:=l xs (bf.of h1);rw[g] at this;cases this;have E:Ext c a H1 c a (ax H1 p (.tup [.int (i:Nat),v])):=r.tH h;exact⟨E,r.fix E λb o z=>by rw[aY (di z h)];exact z,p,[.int (i:Nat),v],rfl,dZ,_,_,rfl,rfl,_,_,rfl,RV.ext E _ _ k,rfl⟩
 stop:=λc a H1 e r hc=>by
  obtain⟨xs,h1,h2⟩:=r.lst hc;rw[e.ag q f] at h1;exact⟨xs,bf.of h1,by rw[<-aj.length h2];simp[i9]⟩
theorem Se{q:Nat}{ds:Bi}{n:Nat}(b:n=ds.length)(c:q<A.length):lX mg A ι H (zM K (ι q) n) ds.reverse (λA'=>A'[q]?=some (.lst ds)) where
 go:=λi d f a H1 hd e r hc=>by
  obtain⟨xs,h1,h2⟩:=r.lst hc;rw[e.ag q c] at h1;have hl:=aj.length h2;have hi:=(bK.mp hd).1;rw[List.length_reverse] at hi;rw[List.getElem?_reverse hi] at hd;obtain⟨v,g,h⟩:=aj.get h2 hd;refine⟨⟨xs,bf.of h1,ω,ω⟩,λx H' y=>?_⟩;obtain⟨rfl,y⟩:=y;have:=y xs (bf.of h1);rw[b,g] at this;cases this;exact⟨r.refl,r,h⟩
 stop:=λf a H1 e r hc=>by
  show n<=ds.reverse.length;rw[List.length_reverse];omega
end
@[irreducible] def nu(f:Bi->Bi)(r:Nat)(A:Ar)(R:Bi->(Ar->Prop)->Ar->Prop):Prop:=match A[r]? with
 |some (.lst ds)=>R (f ds) (λA'=>A'[r]?=some (.lst ds)) A
 |_=>False
theorem BC{f:Bi->Bi}{r:Nat}{A:Ar}{ds:Bi}{R:Bi->(Ar->Prop)->Ar->Prop}(h:A[r]?=some (.lst ds))(k:R (f ds) (λA'=>A'[r]?=some (.lst ds)) A):nu f r A R:=by
 unfold nu;rw[h];exact k
def RB(n:dD):jD:=λτ A R=>n τ A λvs A1=>match vs with
 |[.ref r]=>nu i9 r A1 R
 |_=>False
def RJ(n:dD):jD:=λτ A R=>n τ A λvs A1=>match vs with
 |[.ref r]=>nu List.reverse r A1 R
 |_=>False
section
variable{tg l:Expr}{n:dD}{p pos:Pos}
theorem FO{elts:DD}{k:Nat}{tpos:Pos}(g:X.mg "enumerate"=none)(h:PA X [l] (fU X.mg N n))(i:Gl X "enumerate":=by rfl)(j:starEach [l] X.env=[(false,eval l X.env)]:=by rfl):PI X (.Tuple elts k tpos) (.Call (.Name "enumerate" p) [l] [] pos) (jT X.mg N (RB n)):=qD (Vm i g h boot_enumerate j) λσ H Q q=>by
 obtain⟨A,ι,τ,R,S,q,k⟩:=q;refine⟨A,ι,τ,_,S,q,λvs d b H1 s a m f c=>?_⟩;match vs,a,c with
 |[.ref r],a,c=>
  obtain⟨_,_,rfl,⟨o,rfl⟩,rfl⟩:=c;have a:nu i9 r d R:=a;unfold nu at a;split at a
  .rename_i ds e
   obtain⟨xs,h1,h2⟩:=f.lst e;exact⟨_,xs,rfl,bf.of h1,k _ _ d b H1 _ a m f (R_ o)⟩
  .exact a.elim
theorem OA(g:X.mg "reversed"=none)(h:PA X [l] (fU X.mg N n))(i:Gl X "reversed":=by rfl)(j:starEach [l] X.env=[(false,eval l X.env)]:=by rfl):PI X tg (.Call (.Name "reversed" p) [l] [] pos) (jT X.mg N (RJ n)):=qD (Vp i g h j) λσ H Q q=>by
 obtain⟨A,ι,τ,R,S,q,k⟩:=q;refine⟨A,ι,τ,_,S,q,λvs d b H1 s a m f c=>?_⟩;match vs,a,c with
 |[.ref r],a,c=>
  obtain⟨_,_,rfl,⟨o,rfl⟩,rfl⟩:=c;have a:nu List.reverse r d R:=a;unfold nu at a;split at a
  .rename_i ds e
   obtain⟨xs,h1,h2⟩:=f.lst e;exact⟨_,xs,rfl,bf.of h1,k _ _ d b H1 _ a m f (Se (aj.length h2).symm o)⟩
  .exact a.elim
end
def Jw:V->Bn->Hp->VK->Prop:=λx vs H Q=>∃d o kvs more,x=.ref d/\vs=[.ref o]/\d≠o/\H d=some (.dK kvs)/\H o=some (.dK more)/\kvs.length+more.length<=1000/\Q .aD (ax H d (.dK (lE kvs more)))
theorem Ig:lY X "dict.update" Jw:=by
 intro ae s σ H x vs v y Q I i j h;obtain⟨d,o,kvs,a,rfl,rfl,b,hd,k,E,q⟩:=h;cases i;obtain⟨u,rfl,l⟩:=j.one;cases l;obtain⟨z,m,c,B,C⟩:=s9 I.ar hd;obtain⟨A,n,e,D,f⟩:=s9 I.ar k;have g:(1000:Nat)<=sizeLine:=δ
 have l1:=B.length;have l2:=D.length;have lm:=BN a kvs;refine call_meetsIn slot_dict_update (C.typeIs) PySem.F.entry_dict_update (PySem.F.args_dict_update_2 _ _) (PySem.meets_dict_update (c9 X.prog X.w) d o b n) ?_;refine⟨c,e,C,f,ω,λh' h1 h2 p=>?_⟩;have r:∃q,h'.get? d=some q:=let ⟨q,_,_,t,_⟩:=h1;⟨q,t⟩;exact⟨.aD,_,we I (by rw[hd];exact True.intro) p r (AJ ω m (D.merge B) h1),rfl,q⟩
theorem CmpOf.XG{prog:Program}{w:World}{A:Around}{P:Nat->Value->Prop}(val:Nat->Str)(a:∀i v,P i v->∃t,v=.str (val i) t):
  CmpOf prog w A .Lt P (λi j=>decide ((val i).cps.toList<(val j).cps.toList)):=λi j b c s Q E hi d h=>by
 obtain⟨t,rfl⟩:=a i b hi;obtain⟨u,rfl⟩:=a j c d;exact PySem.P.lt_str h
theorem EJ(val:Nat->Str):∀k,argBest (λi j=>decide ((val i).cps.toList<(val j).cps.toList)) k<=k/\∀j,j<=k->¬(val j).cps.toList<(val (argBest (λi j=>decide ((val i).cps.toList<(val j).cps.toList)) k)).cps.toList
 |0=>⟨aJ _,λj c=>by
  have:j=0:=ω
  subst this;exact kP _⟩
 |k+1=>by
  obtain⟨h1,h2⟩:=EJ val k;have e:argBest (λi j=>decide ((val i).cps.toList<(val j).cps.toList)) (k+1)=if decide ((val (k+1)).cps.toList<(val (argBest (λi j=>decide ((val i).cps.toList<(val j).cps.toList)) k)).cps.toList)=true then k+1 else argBest (λi j=>decide ((val i).cps.toList<(val j).cps.toList)) k:=rfl
  rw[e];split
  .rename_i h
   rw[jj] at h;refine⟨aJ _,λj c a=>?_⟩;by_cases b:j=k+1
   .subst b
    exact kP _ a
   .exact h2 j ω (vv a h)
  .rename_i h
   rw[jj] at h;refine⟨ω,λj c=>?_⟩;by_cases b:j=k+1
   .subst b
    exact h
   .exact h2 j ω
theorem M6(hc:X.calm=true):fy X (.builtin "min") (λxs H Q=>∃(d:Addr) (kvs:List (Key×V)) (ns:Ap),xs=[.ref d]/\Rd H d (.dK kvs)/\kvs.map (·.1)=ns.map Sum.inr/\ns≠[]/\∀m∈ns,(∀n∈ns,¬n.cps.toList<m.cps.toList)->Q (.str m) H):=by
 intro ae s σ H xs S Q I r h;obtain⟨d,kvs,ns,rfl,hd,C,p,q⟩:=h;obtain⟨u,rfl,E⟩:=vals1 r;cases E;have D:=za.mpr p;obtain⟨Z,F,vs,rel,Y⟩:=oE I.ar hd;obtain⟨ep,a⟩:=Y.dictAt;have f:kvs.length=ns.length:=by
  have:=bM List.length C;simpa using this
 have G:vs.length=ns.length:=by rw[<-rel.length,f]
 have g:d<s.heap.objs.size:=by obtain⟨o,_,y,_⟩:=a;exact aW y
 have keys:∀i v,(∃k x,vs[i]?=some (k,x)/\(c9 X.prog X.w).is k v=true)->∃t:Tok,v=.str (ns.getD i default) t:=λi v ⟨k,x,h1,h2⟩=>by
  have J:=rel.keys;have c:(vs.map (·.1))[i]?=some k:=by rw[bz,h1];rfl
  rw[<-J,C,bz] at c;cases e:ns[i]? with
  |none=>rw[e] at c;cases c
  |some n=>
   rw[e] at c;have c:k=Sum.inr n:=(Option.some.inj c).symm;subst c;rcases ja (show kC (Sum.inr n) v=true from h2) with⟨_,_,z,_⟩|⟨T,t,z,K⟩
   .cases z
   .cases z
    refine⟨t,?_⟩;rw[cO,e];exact K
 refine call_min_walk ?_;refine wpAny_pyIter_dict (knd:=c9 X.prog X.w) F a ⟨s.heap.objs.size,_,_,_,_,_,_,rfl,Walks.dictKeys (knd:=c9 X.prog X.w) (A:=X.A.in1) (I.ok.hd hc) s.heap.objs.size d (bG g) vs ep,⟨⟨_,cS _ rfl,rfl,rfl⟩,?_⟩,λb hb=>?_,ω,CmpOf.XG (λi=>ns.getD i default) keys,λv h' U L B=>?_⟩
 .obtain⟨o,es,y,r⟩:=a
  exact⟨o,es,bu _ y,r⟩
 .show b<(s.heap.push _).objs.size
  rw[rJ];rcases bx.mp hb with e|hb
  .rw[e];exact pV _
  .rw[bS.mp hb];exact jh g
 .obtain⟨t,rfl⟩:=keys _ v L
  obtain⟨W,M⟩:=EJ (λi=>ns.getD i default) (vs.length - 1);have hi:argBest (λi j=>decide ((ns.getD i default).cps.toList<(ns.getD j default).cps.toList)) (vs.length - 1)<ns.length:=ω
  have l:ns.getD (argBest (λi j=>decide ((ns.getD i default).cps.toList<(ns.getD j default).cps.toList)) (vs.length - 1)) default∈ns:=by
   rw[cO,aS hi];exact jV hi
  have N:=q _ l λn O=>by
   obtain⟨j,P,e⟩:=jW O;have:=M j ω;rw[cO,aS P] at this;rw[<-e];exact this
  exact⟨.str _,H,I.kept λb o e=>B b o (λz=>by
   have R:b=s.heap.objs.size:=by simpa using z
   exact absurd (aW e) (by rw[R];exact gu _)) (bu _ e),⟨_,rfl⟩,N⟩
def ND(mk mv:aT):aT:=λτ A R=>mk τ A λk A1=>mv τ A1 λv A2=>match f_ k with
 |some ky=>R (.ref A2.length) (A2++[.dct [(ky,v)]])
 |none=>False
theorem Fy{X:Cx}{N:En}{pos:Pos}{k v:Expr}{mk F:aT}(O:PE X k (up X.mg N mk))(P:PE X v (up X.mg N F)):PE X (.Dict [some k] [v] pos) (up X.mg N (ND mk F)):=
 dU (U3 (VC O P VD) rfl rfl θ (δ:1<=15)) λσ H Q q=>by
  obtain⟨A,ι,τ,R,S,q,T⟩:=q;intro p n;have E0:=S.ra.tH (o:=.dK []) n;have G:eN X.mg N A ι τ σ (ax H p (.dK [])):=S.next E0 (S.ra.fix E0 λb o z=>by rw[aY (di z n)];exact z);have off:∀r,r<A.length->ι r≠p:=λr g z=>by
   obtain⟨o,h1,_⟩:=S.ra.im r g;rw[z,n] at h1;cases h1
  refine⟨A,ι,τ,_,G,q,λI U B H1 x V J W Y=>?_⟩;refine⟨U,B,τ,_,G.next J W,V,λw a i H2 y t Z K v2=>?_⟩;have d:=J.trans Z;have L:H2 p=some (.dK []):=d.mo p _ dZ off;have f:∀r,r<a.length->i r≠p:=λr g z=>by
   by_cases hl:r<A.length
   .rw[d.ag r hl] at z;exact off r hl z
   .have:=d.nw r ω g
    rw[z,dZ] at this;cases this
  have t:(match f_ I with|some l=>R (.ref a.length) (a++[.dct [(l,w)]])|none=>False):=t;cases D:f_ I with
  |none=>rw[D] at t;exact t.elim
  |some l=>
  rw[D] at t;have ex:x=kV l:=ny D Y;subst ex;refine⟨L,[(l,y)],rfl,(δ:1<=15),?_⟩;have em:lE [] [(l,y)]=[(l,y)]:=rfl;rw[em];obtain⟨j,e,at2⟩:∃j:Io,(∀r,r<a.length->j r=i r)/\j a.length=p:=⟨λr=>if r=a.length then p else i r,λr h=>by
   show(if r=a.length then p else i r)=i r;rw[av ω],by
   show(if a.length=a.length then p else i a.length)=p;rw[aB rfl]⟩
  have M:∀b o,jO o=false->H2 b=some o->ax H2 p (.dK [(l,y)]) b=some o:=λb o m z=>by
   rw[aY]
   .exact z
   .rintro rfl
    rw[L] at z;cases z;cases m
  refine T (.ref a.length) (a++[.dct [(l,w)]]) j _ _ t ⟨?_,λr h=>?_,S.ra.im,λb o h hn=>?_,λr h1 h2=>?_,λb o h=>?_⟩ ⟨λr c h=>?_,λr s g hs h=>?_⟩ ⟨θ,by rw[at2]⟩
  .have:=d.len;simp;omega
  .rw[e r (dj h d.len)];exact d.ag r h
  .have u:b≠p:=di h n
   rw[aY u];exact d.mo b o (by rw[aY u];exact h) hn
  .by_cases g:r<a.length
   .rw[e r g]
    have:=d.nw r h1 g;rw[aY (f r g)] at this;exact this
   .have:r=a.length:=by simp at h2;omega
    subst this;rw[at2];exact n
  .have u:b≠p:=di h n
   obtain⟨o',h'⟩:=d.al b o (by rw[aY u];exact h);exact⟨o',by rw[aY u];exact h'⟩
  .by_cases g:r<a.length
   .rw[iG g] at h
    have:=CO.ag (n':=(a++[C.dct [(l,w)]]).length) (ι':=j) (H':=ax H2 p (.dK [(l,y)])) θ e M (λo z=>by rw[aY (f r g)];exact z) c (K.iZ r c h);rw[e r g];exact this
   .have E:r=a.length:=by
     have:=(bK.mp h).1;simp at this;omega
    subst E;simp at h;subst h;rw[at2];exact⟨_,dZ,y,[],rfl,RV.ag θ e M w y v2,rfl⟩
  .simp at g hs
   by_cases h1:r=a.length
   .by_cases h2:s=a.length
    .rw[h1,h2]
    .subst h1
     rw[at2,e s ω] at h;exact absurd h.symm (f s ω)
   .by_cases h2:s=a.length
    .subst h2
     rw[at2,e r ω] at h;exact absurd h (f r ω)
    .rw[e r ω,e s ω] at h
     exact K.inj r s ω ω h
noncomputable def xh(A:Ar):D->Bool
 |.ref r=>match A[r]? with
  |some (.dct _)=>true
  |_=>false
 |_=>false
def Ax(f:iX)(mo:aT)(m:dD):aT:=λτ A R=>mo τ A λx A1=>xh A1 x=true/\m τ A1 λvs A2=>f x vs A2 R
theorem BA{A:Ar}{r:Nat}{kvs:List (Key×D)}(h:A[r]?=some (.dct kvs)):xh A (.ref r)=true:=by unfold xh;simp only[h]
section
variable{e o:Expr}{es:DD}{mo:aT}{m:dD}{apos cpos:Pos}{f:iX}{r:V->Bn->Hp->VK->Prop}{name:Str}{id:String}
theorem AF(w:PlainAttrs "dict")(slot:Slot "dict" name id)(h:typeOf (.builtin id)=pure (.type "method_descriptor"))(y:zN X id r)(hd:j9 X.mg X.K "dict" r f)(z:PE X o (up X.mg N mo))(B:PA X (e::es) (fU X.mg N m))
  (b:attributeBase o name X.env (eval o X.env)=eval o X.env:=by rfl)
  (d:((backTo cpos (starEach (e::es) X.env)).all (λx=> !x.1)&&(backToKw cpos (keywordEach [] X.env)).all (λx=>x.1.isSome)
   &&decide ((e::es).length+([]:FR).length+(if ([]:FR).isEmpty then 0 else 1)<30))=true:=by rfl)
  (c:(apos.endLine==cpos.line)=true:=by rfl)(C:starEach (e::es) X.env=(false,eval e X.env)::starEach es X.env:=by rfl)(a:(backTo cpos (starEach es X.env)).any (·.1)=false:=by rfl):
  PE X (.Call (.Attribute o name apos) (e::es) [] cpos) (up X.mg N (Ax f mo m)):=dU (IL w slot h y z B b d c C a) λσ H Q q=>by
 obtain⟨A,ι,τ,R,S,q,k⟩:=q
 refine⟨A,ι,τ,_,S,q,λx D i H1 u j p s t=> ?_⟩
 obtain⟨g,j⟩:=j
 refine⟨?_,D,i,τ,_,S.next p s,j,λys E l H2 n F v G v2=> ?_⟩
 .cases x with
  |ref q=>
   obtain⟨_,rfl⟩:=t
   unfold xh at g
   simp only at g
   split at g
   .rename_i kvs I
    obtain⟨n,h1,_⟩:=s.dct I
    exact .inr (.inr (.inl ⟨rfl,.inl ⟨n,h1⟩⟩))
   .cases g
  |_=>cases g
 .exact hd x ys E l H2 _ n R Q G (RV.ext v x u t) v2 F (k.from (p.trans v))
end
def lG(kvs more:List (Key×D)):List (Key×D):=more.foldl (λacc p=>cQ acc p.1 p.2) kvs
@[irreducible] def yX(r q:Nat)(A:Ar)(R:DK):Prop:=match A[r]?,A[q]? with
 |some (.dct kvs),some (.dct more)=>r≠q/\kvs.length+more.length<=1000/\R .aD (A.set r (.dct (lG kvs more)))
 |_,_=>False
theorem LB{A:Ar}{r q:Nat}{kvs a:List (Key×D)}{R:DK}(h1:A[r]?=some (.dct kvs))(h2:A[q]?=some (.dct a))(b:r≠q)(c:kvs.length+a.length<=1000)(k:R .aD (A.set r (.dct (lG kvs a)))):yX r q A R:=by
 unfold yX;simp only[h1,h2];exact⟨b,c,k⟩
def C6:iX:=λx vs A R=>match x,vs with
 |.ref r,[.ref q]=>yX r q A R
 |_,_=>False
theorem Ft{mg:ay}{K:Frag}:j9 mg K "dict" Jw C6:=by
 intro x ds A ι H u s R Q ra j rs h k;unfold C6 at h;split at h
 .rename_i r q
  obtain⟨e,rfl⟩:=j;obtain⟨_,_,rfl,⟨l,rfl⟩,rfl⟩:=rs;unfold yX at h;split at h
  .rename_i kvs a f m
   obtain⟨b,t,h⟩:=h;obtain⟨xs,h1,g⟩:=ra.dct f;obtain⟨ys,h2,i⟩:=ra.dct m;have l1:=RK.length g;have l2:=RK.length i;refine⟨_,_,xs,ys,rfl,rfl,λz=>b (ra.inj r q e l z),h1,h2,ω,?_⟩;have E:=ra.nc (o:=.dK (lE xs ys)) (c:=.dct (lG kvs a)) e;have n:RK mg ι A.length H (lG kvs a) (lE xs ys):=RK.fold i g;obtain⟨d,p⟩:=ra.put (c':=.dct (lG kvs a)) (o:=.dK (lE xs ys)) f h1 rfl ⟨_,dZ,by simpa using RK.ext E _ _ n⟩;exact k _ _ ι _ _ h p d rfl
  .exact h.elim
 .exact h.elim
@[irreducible] def xH(r:Nat)(A:Ar)(R:DK):Prop:=∃(kvs:List (Key×D)) (ns:Ap),(A[r]?=some (.dct kvs)\/∃o,A[r]?=some (.bI o kvs))/\kvs.map (·.1)=ns.map Sum.inr/\ns≠[]/\∀m∈ns,(∀n∈ns,¬n.cps.toList<m.cps.toList)->R (.str m) A
def Ib:iW:=λvs A R=>match vs with
 |[.ref r]=>xH r A R
 |_=>False
theorem Tr{A:Ar}{r:Nat}{kvs:List (Key×D)}{ns:Ap}{R:DK}(h:A[r]?=some (.dct kvs)\/∃o,A[r]?=some (.bI o kvs))(b:kvs.map (·.1)=ns.map Sum.inr)(a:ns≠[])(k:∀m∈ns,(∀n∈ns,¬n.cps.toList<m.cps.toList)->R (.str m) A):xH r A R:=by
 unfold xH;exact⟨kvs,ns,h,b,a,k⟩
theorem Oa{mg:ay}:jl mg (λxs H Q=>∃(d:Addr) (kvs:List (Key×V)) (ns:Ap),xs=[.ref d]/\Rd H d (.dK kvs)/\kvs.map (·.1)=ns.map Sum.inr/\ns≠[]/\∀m∈ns,(∀n∈ns,¬n.cps.toList<m.cps.toList)->Q (.str m) H) Ib:=by
 intro ds A ι H i R Q ra rs h k;unfold Ib at h;split at h
 .obtain⟨_,_,rfl,⟨_,rfl⟩,rfl⟩:=rs
  unfold xH at h;obtain⟨kvs,ns,h1,h2,f,g⟩:=h;rcases h1 with h1|⟨o,h1⟩
  .obtain⟨xs,b,c⟩:=ra.dct h1
   exact⟨_,xs,ns,rfl,.inl b,by rw[RK.qK c];exact h2,f,λm e a=>k.here ra (g m e a) rfl⟩
  .obtain⟨xs,b,c⟩:=ra.bI h1
   exact⟨_,xs,ns,rfl,.inr ⟨o,b⟩,by rw[RK.qK c];exact h2,f,λm e a=>k.here ra (g m e a) rfl⟩
 .exact h.elim
@[irreducible] def w4(neg:Bool)(x:D)(r:Nat)(A:Ar)(R:DK):Prop:=∃(kvs:List (Key×D)) (k:Key),(A[r]?=some (.dct kvs)\/∃o,A[r]?=some (.bI o kvs))/\f_ x=some k/\R (.bl (if neg then !(bA kvs k).isSome else (bA kvs k).isSome)) A
def wY(neg:Bool):fY:=λx y A R=>match y with
 |.ref r=>w4 neg x r A R
 |_=>False
theorem Hs{neg:Bool}{x:D}{r:Nat}{A:Ar}{R:DK}{kvs:List (Key×D)}{k:Key}(h:A[r]?=some (.dct kvs)\/∃o,A[r]?=some (.bI o kvs))(a:f_ x=some k)(q:R (.bl (if neg then !(bA kvs k).isSome else (bA kvs k).isSome)) A):w4 neg x r A R:=by
 unfold w4;exact⟨kvs,k,h,a,q⟩
theorem Fo{mg:ay}(neg:Bool):fJ mg (uM neg) (wY neg):=by
 intro x y A ι H u v R Q ra g i h k;unfold wY at h;split at h
 .rename_i f
  obtain⟨_,rfl⟩:=i;unfold w4 at h;obtain⟨kvs,b,h1,j,h2⟩:=h;have ex:=ny j g;subst ex;have fin:∀a,RK mg ι A.length H kvs a->Rd H (ι f) (.dK a)->uM neg (kV b) (.ref (ι f)) H Q:=λa c l=>by
   obtain⟨m,n⟩:=RK.get (k:=b) c;refine⟨_,fF a b,rfl,.inl ⟨a,b,l,rfl,rfl⟩,?_⟩;have p:(fF a b).isSome=(bA kvs b).isSome:=by
    cases q:bA kvs b with
    |none=>rw[n q];rfl
    |some d=>obtain⟨z,r,_⟩:=m d q;rw[r];rfl
   rw[p];exact k.here ra h2 rfl
  rcases h1 with h1|⟨o,h1⟩
  .obtain⟨a,e,c⟩:=ra.dct h1
   exact fin a c (.inl e)
  .obtain⟨a,e,c⟩:=ra.bI h1
   exact fin a c (.inr ⟨o,e⟩)
 .exact h.elim
section
variable{pos:Pos}{a b:Expr}{ma mb:aT}
theorem OT(c:X.A.units+64<cLine)(d:PE X a (up X.mg N ma))(e:PE X b (up X.mg N mb))(f:behindInMarks .In b=false:=by rfl):PE X (.Compare a [.In] [b] pos) (up X.mg N (bO (wY false) ma mb)):=Fx (B_ c) (Fo false) d e f
theorem Yk(c:X.A.units+64<cLine)(d:PE X a (up X.mg N ma))(e:PE X b (up X.mg N mb))(f:behindInMarks .In b=false:=by rfl):PT X (.Compare a [.In] [b] pos) (dJ X.mg N (fO (bO (wY false) ma mb))):=mh (B_ c) (Fo false) d e f
end
def Ff(m:aT):aT:=λτ A R=>(∃r kvs,A[r]?=some (.dct kvs)/\∀o,m τ (A.set r (.bI o kvs)) λx A2=>Lp r o A2 (R x))\/m τ A R
def Wt(m:cT):cT:=λR τ A=>(∃r kvs,A[r]?=some (.dct kvs)/\∀o,m {nx:=λbT A2=>Lp r o A2 (R.nx bT),rt:=λ_ _=>False} τ (A.set r (.bI o kvs)))\/m R τ A
section
variable{e:Expr}{m:aT}
theorem wj(g:PE X e (up X.mg N m)):PE X e (up X.mg N (Ff m)):=by
 intro ae s σ H Q I q;obtain⟨A,ι,τ,R,S,q,k⟩:=q;rcases q with⟨r,kvs,a,q⟩|q
 .obtain⟨xs,h1,h2⟩:=S.ra.dct a
  have hl:=(bK.mp a).1;obtain⟨n,o,p⟩:=I.fz h1;obtain⟨t,w⟩:=GG (o:=o) S a h1 h2;refine aQ (g ae s σ _ (λu H'=>∃xs,H' (ι r)=some (.bW o (.dK xs))/\Q u (ax H' (ι r) (.dK xs))) p ⟨_,ι,τ,_,t,q o,λv A' ι' H' u b h x v2=>?_⟩) λv s' ⟨u,H',y,z,B,h',C⟩=>⟨u,_,y.Lv h' n,z,C⟩;obtain⟨i,c,b⟩:=b;have D:ι' r=ι r:=h.ag r (by simpa using hl);obtain⟨d,j,l,f⟩:=GF x c;rw[D] at j l f;exact⟨d,j,k v _ ι' _ u b ((w.trans h).trans f) l (RV.ext f v u v2)⟩
 .exact g ae s σ H Q I ⟨A,ι,τ,R,S,q,k⟩
theorem OM{st:Stmt}{ms:cT}(f:PS X st (cK X.mg N ms)):PS X st (cK X.mg N (Wt ms)):=by
 intro ae s σ H Q I q;obtain⟨A,ι,τ,R,S,q,k⟩:=q;rcases q with⟨r,kvs,a,q⟩|q
 .obtain⟨xs,h1,h2⟩:=S.ra.dct a
  have hl:=(bK.mp a).1;obtain⟨m,o,n⟩:=I.fz h1;obtain⟨p,t⟩:=GG (o:=o) S a h1 h2;refine aQ (f ae s σ _ {nx:=λσ' H'=>∃xs,H' (ι r)=some (.bW o (.dK xs))/\Q.nx σ' (ax H' (ι r) (.dK xs)),rt:=λ_ _=>False,bk:=λ_ _=>False,ct:=λ_ _=>False} n ⟨_,ι,τ,_,p,q o,⟨λbT A' ι' σ' H' b g v w=>?_,λ_ _ _ _ _ z=>z.elim,λ_ _ _ _ _ z=>z.elim,λ_ _ _ _ _ z=>z.elim⟩⟩) λfl s' h=>?_
  .obtain⟨i,c,b⟩:=b
   have x:ι' r=ι r:=g.ag r (by simpa using hl);obtain⟨d,j,l,e⟩:=GF v c;rw[x] at j l e;exact⟨d,j,k.nx bT _ ι' σ' _ b ((t.trans g).trans e) l (w.ext e)⟩
  .cases fl with
   |next=>
    obtain⟨σ',H',y,B,h',C⟩:=h;exact⟨σ',_,y.Lv h' m,C⟩
   |brk=>obtain⟨_,_,_,z⟩:=h;exact z.elim
   |cont=>obtain⟨_,_,_,z⟩:=h;exact z.elim
   |ret u=>obtain⟨_,_,_,_,_,z⟩:=h;exact z.elim
 .exact f ae s σ H Q I ⟨A,ι,τ,R,S,q,k⟩
end
def Jj:V->Bn->Hp->VK->Prop:=λx vs H Q=>∃l b xs zs,x=.ref l/\vs=[.ref b]/\H l=some (.lst xs)/\H b=some (.tup zs)/\xs.length+zs.length<=sizeLine/\Q .aD (ax H l (.lst (xs++zs)))
theorem TN:lY X "list.extend" Jj:=by
 intro ae s σ H x vs v p Q I g i h;obtain⟨l,b,xs,zs,rfl,rfl,d,j,y,q⟩:=h;cases g;obtain⟨u,rfl,k⟩:=i.one;cases k;obtain⟨z,t,n,r,hl,e⟩:=I.lD d;obtain⟨a,n2,f,m,_⟩:=I.Lu j;have o:=f.length;have w:t.toArray.size+a.toArray.size<=sizeLine:=by rw[cE,cE];omega
 have c:¬(!t.toArray.isEmpty&&Builtin.List.listTooLong (t.toArray.size+a.toArray.size))=true:=by
  rw[Iv w,y_];exact cC
 refine mT pZ ⟨_,e,rfl⟩ PySem.F.entry_list_extend (PySem.F.args_list_extend_2 _ _)
  (AutoSeq1.list_extend_list_tuple_0 l t.toArray n b a.toArray n2 c (by rw[cE];omega) ω) ⟨e,m,?_⟩
 refine⟨.aD,_,I.xB (its':=t++a) d e θ (r.append f) ?_,rfl,q⟩;rw[eE];omega
@[irreducible] def wF(r:Nat)(ys:Bi)(A:Ar)(R:DK):Prop:=match A[r]? with
 |some (.lst xs)=>xs.length+ys.length<=sizeLine/\R .aD (A.set r (.lst (xs++ys)))
 |_=>False
def Gi:iX:=λx vs A R=>match x,vs with
 |.ref r,[.tup ys]=>wF r ys A R
 |_,_=>False
theorem NV{mg:ay}{K:Frag}:j9 mg K "list" Jj Gi:=by
 intro x ds A ι H u g R Q ra d rs h k;unfold Gi at h;split at h
 .obtain⟨_,rfl⟩:=d
  obtain⟨v,_,rfl,⟨a,zs,rfl,f,b⟩,rfl⟩:=rs;unfold wF at h;split at h
  .rename_i xs e
   obtain⟨ws,h1,c⟩:=ra.lst e;exact⟨_,_,ws,zs,rfl,rfl,h1,f,by rw[<-aj.length c,<-aj.length b];exact h.1,Cm k ra e h1 (c.app b) h.2 λ_=>rfl⟩
  .exact h.elim
 .exact h.elim
theorem Pa{A:Ar}{r:Nat}{xs ys:Bi}{R:DK}(h:A[r]?=some (.lst xs))(a:xs.length+ys.length<=sizeLine)(k:R .aD (A.set r (.lst (xs++ys)))):wF r ys A R:=by
 unfold wF;simp only[h];exact⟨a,k⟩
end L2
end
namespace L2
theorem bJ{N P:List PySem.Str}{sc:PySem.Scope}(kind:sc.kind=.function:=by rfl)(co:sc.isCoroutine=false:=by rfl)(gen:sc.isGenerator=false:=by rfl)(nd:N.Nodup:=by decide+kernel)(pre:N.take P.length=P:=by rfl)
 (par:∀x∈P,sc.names.lookup x=some .local\/sc.names.lookup x=some .cell:=by decide+kernel)(B8:∀y∈sc.names,y.2≠ .free:=by decide+kernel):bB N P sc:=⟨kind,co,gen,nd,pre,par,B8⟩
end L2
section
open PySem PySem.Spec PyProof.Rows
namespace L2
variable{X:Cx}
variable{N:En}
section
variable{pos pos':Pos}{e a b:Expr}{m ma mb:aT}{x:Str}(i:Nat)
theorem dS(a:X.N.Nodup)(b:PE X e (up X.mg N m))(hi:X.N[i]?=some x:=by rfl)(c:Loc X.env.scope x:=by first|exact .inl rfl|exact .inr rfl)(d:swapsWith e (some (.Name x pos')) pos.line X.env=pure false:=by rfl)(f:autoParam (X.fn x=true\/X.env.scope.names.lookup x=some .local) Zw):
 PS X (.Assign [.Name x pos'] e pos) (cK X.mg N (jQ i m)):=OO a hi c b d f
theorem dG(a:X.N.Nodup)(hi:X.N[i]?=some x:=by rfl)(b:Loc X.env.scope x:=by first|exact .inl rfl|exact .inr rfl)(c:autoParam (X.fn x=true\/X.env.scope.names.lookup x=some .local) Zw):PG X (.Name x pos) (pP X.mg N (gN i)):=Oz a hi b c
theorem pG(a:X.N.Nodup)(hi:X.N[i]?=some x:=by rfl)(b:Loc X.env.scope x:=by first|exact .inl rfl|exact .inr rfl)(c:autoParam (X.fn x=true\/X.env.scope.names.lookup x=some .local) Zw):PG X (.Name x pos) (qL i):=IQ a hi b c
end
section
variable{pos p:Pos}{e a b:Expr}{ma mb:aT}{x:Str}{es:DD}{k r n:Nat}{ps:Ap}{S:Ct}{RE:DX}{m:dD}
theorem dX(c:X.A.units+64<cLine)(d:PE X a (up X.mg N ma))(e:PE X b (up X.mg N mb))(f:zQ b:=by exact λ_ _=>rfl):PE X (.Subscript a b pos) (up X.mg N (bO jL ma mb)):=Om c d e f
theorem dL(F:aC X.prog X.w X.K X.mg X.base k x ps (aA X.mg n S))(c:eL r X.A)(d:Passes (bU X.prog X.w) X (EL X.mg N RE))(f:PA X (e::es) (fU X.mg N m))(g:k<=r:=by omega)(h:Gl X x:=by rfl)(a:(x==("__debug__":Str))=false:=by decide)
 (i:starEach (e::es) X.env=(false,eval e X.env)::starEach es X.env:=by rfl)(b:(backTo pos (starEach es X.env)).any (·.1)=false:=by rfl):
 PE X (.Call (.Name x p) (e::es) [] pos) (up X.mg N (iK n S RE m)):=Oh F (c.mono g) d f h a i b
end
theorem cg{P:Program}{w:World}{K:Frag}{mg:ay}{base:Heap}{x:Str}{st:Stmt}{Nm ps:Ap}{k n:Nat}{S:Ct}(T:TopD K mg x st ps)(Sc:bB Nm ps (aO st))
  (b:∀{N:En} {RE:DX} {f:Addr} {a:Value} {B:Around} {outer:Fh} {s:Shared} {H:Hp} {E:XK},eL k (cU (bU P w) P w K mg base Nm x (aO st) f a B outer s H E).A->
   Raises (cU (bU P w) P w K mg base Nm x (aO st) f a B outer s H E) (EL mg N RE)->Passes (bU P w) (cU (bU P w) P w K mg base Nm x (aO st) f a B outer s H E) (EL mg N RE)->
   (cU (bU P w) P w K mg base Nm x (aO st) f a B outer s H E).A.units+64<cLine->Nm.Nodup->
   ∃m,dF (cU (bU P w) P w K mg base Nm x (aO st) f a B outer s H E) (ir st) (cK mg N m)/\∀ds A R,S ds A R RE->ds.length=n->m {nx:=λ_ A'=>R .aD A',rt:=R} (kI (Nm.length - n) ds) A)(d:ps.length=n:=by rfl)(e:ps.length<=Nm.length:=by decide):aC P w K mg base (k+1) x ps (aA mg n S):=
 lu T Sc d e λN RE f a B outer s H E c g i ds A R h hl=>by
  obtain⟨m,h1,h2⟩:=b c g i c.units Sc.nd;exact⟨m,h1,h2 ds A R h hl⟩
open PySem.SeqAt
theorem LG:∀(as:D1),Vals (as.map V.ref) (as.map Value.ref)
 |[]=>.nil
 |a::as=>.cons rfl (LG as)
@[irreducible] def ug(r:Nat)(y v:D)(A:Ar)(R:Ar->Prop):Prop:=match A[r]?,y with
 |some (.lst xs),.int i=>∃j,jq xs.length i=some j/\R (A.set r (.lst (xs.set j v)))
 |_,_=>False
def JJ(mo mi mv:aT):cT:=λR τ A=>mv τ A λv A1=>mo τ A1 λx A2=>mi τ A2 λy A3=>match x with
 |.ref r=>ug r y v A3 λA4=>R.nx τ A4
 |_=>False
theorem ON{X:Cx}{N:En}{pos pos':Pos}{o i value:Expr}{mo C D:aT}(I:PE X o (up X.mg N mo))(hi:PE X i (up X.mg N C))(J:PE X value (up X.mg N D))
  (K:swapsWithSole [.Subscript o i pos'] value pos.line X.env=pure false:=by rfl)(L:swappedStores [.Subscript o i pos'] value X.env=pure none:=by rfl)
  (h1:(assignEach [.Subscript o i pos'] X.env).map (·.2)=[assign (.Subscript o i pos') X.env]:=by rfl)
  (M:∀v,assign (.Subscript o i pos') X.env v=(do
   let b <-holding [v] (eval o X.env)
   let l <-holding [v,b] (eval i X.env)
   standAt pos'
   holding [v,b,l] (setItem b l v)
   release [v,b,l] []):=by intro _;rfl):
  PS X (.Assign [.Subscript o i pos'] value pos) (cK X.mg N (JJ mo C D)):=i8 (IX J (Vl I hi set_list M) K L h1) λQ σ H q=>by
 obtain⟨A,ι,τ,R,S,q,k⟩:=q
 refine⟨A,ι,τ,_,S,q,λv O m H1 w P d n T=> ?_⟩
 refine⟨O,m,τ,_,S.next d n,P,λx U p H2 u V f F v2=> ?_⟩
 refine⟨U,p,τ,_,(S.next d n).next f F,V,λy W Y H3 z a g h Z=> ?_⟩
 have s:=RV.ext (f.trans g) v w T
 have t:=RV.ext g x u v2
 cases x with
 |ref r=>
  obtain⟨_,rfl⟩:=t
  have a:ug r y v W (λA4=>R.nx τ A4):=a
  unfold ug at a
  split at a
  .rename_i xs i e _
   obtain⟨B,h1,h2⟩:=h.lst e
   obtain⟨j,hj,a⟩:=a
   cases Z
   refine⟨_,B,i,j,rfl,rfl,h1,by rw[<-aj.length h2];exact hj,?_⟩
   have hl:=(bK.mp e).1
   have E:=h.nc (o:= .lst (B.set j w)) (c:= .lst (xs.set j v)) hl
   obtain⟨r4,G⟩:=h.put (c':= .lst (xs.set j v)) (o:= .lst (B.set j w)) e h1 rfl ⟨_,dZ,by simpa using aj.ext E _ _ (h2.set j s)⟩
   exact(k.nx.from (((d.trans f).trans g).trans G)).here ((((S.next d n).next f F).next g h).next G r4) a
  .exact a.elim
 |_=>exact a.elim
theorem S0{A:Ar}{r j:Nat}{i:Int}{xs:Bi}{v:D}{R:Ar->Prop}(h:A[r]?=some (.lst xs))(a:jq xs.length i=some j)(k:R (A.set r (.lst (xs.set j v)))):ug r (.int i) v A R:=by
 unfold ug;rw[h];exact⟨j,a,k⟩
open MA
structure kT(x:Rat):Prop where
 pos:0<x
 num:(rf x).1<=1152921504606846976
 den:(rf x).2<=1152921504606846976
theorem MX{xs:Fu}(h:∀x∈xs,kT x)(hl:xs.length<=32):bot xs 1<=1152921504606846976 ^ 32:=by
 have:=bot_le 1152921504606846976 δ xs 1 δ λx a=>(h x a).den;rw[one_mul] at this;exact fh this (pI (c:=1152921504606846976) δ hl)
theorem LA{xs:Fu}(h:∀x∈xs,kT x)(hl:xs.length<=32){n:Int}(c:n∈ups xs):0<n/\n<=1152921504606846976 ^ 33:=by
 obtain⟨x,a,rfl⟩:=aP.mp c;have f:=h x a;refine⟨yY a f.pos,?_⟩;have d:=MX h hl;obtain⟨b,_,_⟩:=om xs 1 δ;have h1:bot xs 1/(rf x).2<=bot xs 1:=r8 _ (dM b);have h0:0<=bot xs 1/(rf x).2:=Int.ediv_nonneg (dM b) (dM (cj x));have e:=cV f.pos;rw[show(33:Nat)=32+1 from rfl,jz,nJ _ (1152921504606846976:Int)];exact dc f.num (fh h1 d) h0 δ
theorem BV{n:Int}(h0:0<n)(h:n<=1152921504606846976 ^ 33):n.natAbs.log2<9000:=
 SX (Nat.lt_of_le_of_lt (TV (c:=1152921504606846976) h0 h) η)
theorem K6{n:Int}(h:n<=1152921504606846976):n<=1152921504606846976 ^ 33:=fh h η
@[irreducible] def IV(r:Nat)(i:Int)(A:Ar)(R:DK):Prop:=match A[r]? with
 |some (.lst xs)=>∃(k:Nat) (y:D),i=(k:Int)/\k<1000000/\xs[k]?=some y/\R y (A.set r (.lst (xs.eraseIdx k)))
 |_=>False
def IU:iX:=λx vs A R=>match x,vs with
 |.ref r,[.int i]=>IV r i A R
 |_,_=>False
theorem aj.erase{mg:ay}{ι:Io}{H:Hp}{n:Nat}{ds:Bi}{vs:Bn}(h:aj mg ι n H ds vs)(k:Nat):aj mg ι n H (ds.eraseIdx k) (vs.eraseIdx k):=by
 rw[zw,zw];exact(h.take k).app (h.drop (k+1))
theorem zq9{A:Ar}{r k:Nat}{i:Int}{xs:Bi}{y:D}{R:DK}(h:A[r]?=some (.lst xs))(hi:i=(k:Int))(hk:k<1000000)(hy:xs[k]?=some y)(q:R y (A.set r (.lst (xs.eraseIdx k)))):IV r i A R:=by
 unfold IV;rw[h];exact⟨k,y,hi,hk,hy,q⟩
theorem Oe{mg:ay}{K:Frag}:j9 mg K "list" Jv IU:=by
 intro x ds A ι H u n R Q ra d rs h k;unfold IU at h;split at h
 .obtain⟨_,rfl⟩:=d
  obtain⟨v,_,rfl,f,rfl⟩:=rs;cases f;unfold IV at h;split at h
  .rename_i xs e
   obtain⟨j,y,rfl,p,g,q⟩:=h;obtain⟨ws,h1,a⟩:=ra.lst e;obtain⟨v,h2,i⟩:=aj.get a g;have l:=(bK.mp e).1;have r:=(bK.mp h2).1;have E:=ra.nc (o:=.lst (ws.eraseIdx j)) (c:=.lst (xs.eraseIdx j)) l;obtain⟨m,b⟩:=ra.put (c':=.lst (xs.eraseIdx j)) (o:=.lst (ws.eraseIdx j)) e h1 rfl ⟨_,dZ,by simpa using aj.ext E _ _ (aj.erase a j)⟩;refine⟨_,ws,_,j,v,rfl,rfl,h1,ω,ω,?_,h2,k _ _ _ _ _ q b m (by simpa using RV.ext b _ _ i)⟩;rw[seqIndex_of ω ω];simp
  .exact h.elim
 .exact h.elim
def Jh(K:Frag):V->Bn->Hp->VK->Prop:=λx vs H Q=>∃(l:Addr) (ws:Bn) (y:V) (xs:Fs) (d:PyData),x=.ref l/\vs=[y]/\H l=some (.lst ws)/\Dp K H x (.list xs)/\Dp K H y d/\canLayAll0 xs=true/\d.canLay0=true/\min (depthAll xs) d.depth<=60/\Q (.int ((xs.countP λz=>PyData.eqv z d:Nat):Int)) H
theorem TM(w:X.A.units+64<cLine):lY X "list.count" (Jh X.K):=by
 intro ae s σ H x vs v B Q I a f h;obtain⟨l,ws,y,xs,d,rfl,rfl,g,i,j,b,k,hd,q⟩:=h;obtain⟨u,rfl,m⟩:=f.one;obtain⟨as,ra⟩:=Dp.reads I _ _ v i a;obtain⟨bs,o⟩:=Dp.reads I d y u j m;cases a;obtain⟨z,C,n,r,hl,e⟩:=I.lD g;cases ra with
 |list h1 h2 p c=>
  rw[e] at h1;cases h1;cases p;refine mT F.slot_list_count ⟨_,e,rfl⟩ F.entry_list_count (F.args_list_count_2 _ _) (PySem.SeqAt.list_countAt l C.toArray n _ _ u (λy=>PyData.eqv (PySem.SeqAt.readOf s.heap y) d)) ⟨e,PySem.SeqAt.items_eqAt c o b k ?_,?_⟩
  .omega
  .have t:C.toArray.toList.countP (λy=>PyData.eqv (PySem.SeqAt.readOf s.heap y) d)=xs.countP λz=>PyData.eqv z d:=by
    rw[<-PySem.SeqAt.readsAll_map xs _ _ b c,countP_map];rfl
   rw[t];exact⟨.int _,H,I.tok _,⟨_,rfl⟩,q⟩
@[irreducible] def v7(r:Nat)(y:D)(A:Ar)(R:DK):Prop:=match A[r]? with
 |some (.lst xs)=>gb xs=true/\fS y=true/\canLayAll0 (bF xs)=true/\(toQ y).canLay0=true/\depthAll (bF xs)<=60/\R (.int (((bF xs).countP λz=>PyData.eqv z (toQ y):Nat):Int)) A
 |_=>False
def E9:iX:=λx vs A R=>match x,vs with
 |.ref r,[y]=>v7 r y A R
 |_,_=>False
theorem NU{mg:ay}{K:Frag}:j9 mg K "list" (Jh K) E9:=by
 intro x ds A ι H u i R Q ra a rs h k;unfold E9 at h;split at h
 .obtain⟨_,rfl⟩:=a
  obtain⟨v,_,rfl,b,rfl⟩:=rs;unfold v7 at h;split at h
  .rename_i xs e
   obtain⟨ws,h1,c⟩:=ra.lst e;obtain⟨d,p2,f,g,hd,q⟩:=h;exact⟨_,ws,v,_,_,rfl,rfl,h1,.lst (bf.of h1) (aj.dp xs ws d c),RV.dp _ v p2 b,f,g,ω,k.here ra q rfl⟩
  .exact h.elim
 .exact h.elim
theorem Ni{A:Ar}{r:Nat}{xs:Bi}{y:D}{R:DK}(h:A[r]?=some (.lst xs))(h1:gb xs=true)(h2:fS y=true)(a:canLayAll0 (bF xs)=true)(b:(toQ y).canLay0=true)(c:depthAll (bF xs)<=60)(q:R (.int (((bF xs).countP λz=>PyData.eqv z (toQ y):Nat):Int)) A):v7 r y A R:=by
 unfold v7;rw[h];exact⟨h1,h2,a,b,c,q⟩
@[irreducible] def um(a b:Nat)(A:Ar)(R:DK):Prop:=match A[a]?,A[b]? with
 |some (.lst xs),some (.lst ys)=>R (.ref A.length) (A++[.lst ((xs.zip ys).map λp=>.tup [p.1,p.2])])
 |_,_=>False
def NK(n:dD):aT:=λτ A R=>n τ A λvs A1=>match vs with
 |[.ref a,.ref b]=>um a b A1 R
 |_=>False
theorem Tg{A:Ar}{a b:Nat}{xs ys:Bi}{R:DK}(h1:A[a]?=some (.lst xs))(h2:A[b]?=some (.lst ys))(q:R (.ref A.length) (A++[.lst ((xs.zip ys).map λp=>.tup [p.1,p.2])])):um a b A R:=by
 unfold um;rw[h1,h2];exact q
theorem Oq{X:Cx}{N:En}{a b:Expr}{n:dD}{Y p2 h f:Pos}(C:X.mg "list"=none)(D:X.mg "zip"=none)(hc:X.calm=true)(Z:PA X [a,b] (fU X.mg N n))(F:Gl X "list":=by rfl)(G:Gl X "zip":=by rfl)
  (hs:starEach [a,b] X.env=[(false,eval a X.env),(false,eval b X.env)]:=by rfl)(I:starEach [b] X.env=[(false,eval b X.env)]:=by rfl)
  (hz:starEach [.Call (.Name "zip" p2) [a,b] [] f] X.env=[(false,eval (.Call (.Name "zip" p2) [a,b] [] f) X.env)]:=by rfl):
  PE X (.Call (.Name "list" Y) [.Call (.Name "zip" p2) [a,b] [] f] [] h) (up X.mg N (NK n)):=
 dU (U8 F C rY G D η hc Z hs I hz) λσ H Q q=>by
  obtain⟨A,ι,τ,R,S,q,k⟩:=q
  refine⟨A,ι,τ,_,S,q,λvs A1 Y8 H1 us g e1 v w=> ?_⟩
  match vs,g,w with
  |[.ref x,.ref y],g,w=>
   obtain⟨_,_,rfl,⟨_,rfl⟩,_,_,rfl,⟨_,rfl⟩,rfl⟩:=w
   have g:um x y A1 R:=g
   unfold um at g
   split at g
   .rename_i ds es e2 e3
    obtain⟨xs,h1,U⟩:=v.lst e2
    obtain⟨ys,h2,V⟩:=v.lst e3
    refine⟨_,_,xs,ys,rfl,bf.of h1,bf.of h2,λl H' ps sm hl W j m=> ?_⟩
    have o:g_ H1 (λb=>if b=l then none else H' b):=λb u z=>by
     have:b≠l:=λe=>by rw[e,hl] at z;cases z
     show(if b=l then none else H' b)=some u
     rw[av this]
     exact sm b u z
    have eH:H'=ax (λb=>if b=l then none else H' b) l (.lst ps):=by
     funext b
     by_cases z:b=l
     .rw[z,dZ,W]
     .rw[aY z,av z]
    have E:=v.AX o
    rw[eH]
    refine kF (k.from (e1.trans E)) (v.fix E o) (aj.of_get ?_ λi d p hd J=> ?_) g (by show(if l=l then none else H' l)=none;rw[aB rfl])
    .rw[j,aM,length_zip,aj.length U,aj.length V]
    .obtain⟨t,K,B,rfl,hx,hy,L⟩:=m i p J
     rw[bz] at hd
     cases c:(ds.zip es)[i]? with
     |none=>rw[c] at hd;cases hd
     |some pr=>
      rw[c] at hd
      cases hd
      have M:ds[i]? =some pr.1:=by
       rw[sj] at c
       exact c.1
      have hd2:es[i]? =some pr.2:=by
       rw[sj] at c
       exact c.2
      obtain⟨w,r,O⟩:=aj.get U M
      obtain⟨v2,s,P⟩:=aj.get V hd2
      rw[hx] at r
      rw[hy] at s
      cases r
      cases s
      have T:(if t=l then none else H' t)=some (.tup [K,B]):=by
       rw[av (λz=>by rw[z,W] at L;cases L)]
       exact L
      exact⟨t,[K,B],rfl,T,K,[B],rfl,RV.ext E _ _ O,B,[],rfl,RV.ext E _ _ P,rfl⟩
   .exact g.elim
def Jk:V->Bn->Hp->VK->Prop:=λx vs H Q=>∃d kvs ky dv,x=.ref d/\vs=[kV ky,dv]/\H d=some (.dK kvs)/\Q ((fF kvs ky).getD dv) H
theorem TQ:lY X "dict.get" Jk:=by
 intro ae s σ H x vs v o Q I f g h;obtain⟨d,kvs,a,p,rfl,rfl,hd,q⟩:=h;cases f;obtain⟨r,i,rfl,j,k⟩:=g.two;obtain⟨t,l,b,A,z⟩:=s9 I.ar hd;refine call_meetsIn PySem.F.slot_dict_get z.typeIs PySem.F.entry_dict_get (PySem.F.args_dict_get_3 _ _ _) (PySem.meets_dict_get_default (c9 X.prog X.w) d (nv j) l i) ?_;refine⟨_,z.mapOf,?_⟩;have rel:=A.val a;cases e:fF kvs a with
 |none=>
  rw[e] at rel q;have m:valueAt b a=none:=iJ.none_of rel;rw[m];exact⟨_,H,I.tok _,k,q⟩
 |some y=>
  rw[e] at rel q;obtain⟨u,n,c⟩:=iJ.some_of rel;rw[n];exact⟨_,H,I.tok _,c,q⟩
@[irreducible] def wJ(r:Nat)(y dv:D)(A:Ar)(R:DK):Prop:=∃kvs k,A[r]?=some (.dct kvs)/\f_ y=some k/\R ((bA kvs k).getD dv) A
def Bh:iX:=λx vs A R=>match x,vs with
 |.ref r,[y,dv]=>wJ r y dv A R
 |_,_=>False
theorem QE{A:Ar}{r:Nat}{kvs:List (Key×D)}{y a:D}{k:Key}{R:DK}(h:A[r]?=some (.dct kvs))(b:f_ y=some k)(q:R ((bA kvs k).getD a) A):wJ r y a A R:=by
 unfold wJ;exact⟨kvs,k,h,b,q⟩
theorem NW{mg:ay}{K:Frag}:j9 mg K "dict" Jk Bh:=by
 intro x ds A ι H u m R Q ra b rs h k;unfold Bh at h;split at h
 .rename_i r y n
  obtain⟨o,rfl⟩:=b;obtain⟨p,_,rfl,h1,⟨v2,_,rfl,h2,rfl⟩⟩:=rs;unfold wJ at h;obtain⟨kvs,a,c,e,h⟩:=h;have ex:=ny e h1;subst ex;obtain⟨xs,f,g⟩:=ra.dct c;obtain⟨i,j⟩:=RK.get (k:=a) g;refine⟨_,xs,a,v2,rfl,rfl,f,?_⟩;cases q:bA kvs a with
  |none=>
   rw[q] at h;rw[j q];exact k.here ra h h2
  |some d=>
   rw[q] at h;obtain⟨z,s,l⟩:=i d q;rw[s];exact k.here ra h l
 .exact h.elim
open PySem.SeqAt
abbrev pJ(n:Str)(q:PyData):PyData:=.tuple [.str n,q]
theorem Tc{n m:Str}{q r:PyData}(a:q.canLay0=true)(h:n=m->q=r):ltQ (pJ n q) (pJ m r)=some (decide (n.cps.toList<m.cps.toList)):=by
 by_cases c:n=m
 .have e:=h c
  subst e;subst c;rw[ltQ,eV];have b:PyData.eqv (.str n) (.str n)=true:=by simp[PyData.eqv]
  rw[b];show eV [q] [q]=_;rw[eV,eqv_refl _ a,d8 (kP _)];rfl
 .rw[ltQ,eV]
  have d:PyData.eqv (.str n) (.str m)=false:=by simpa[PyData.eqv] using c
  rw[d];show ltQ (.str n) (.str m)=_;rw[ltQ]
def Yb(K:Frag)(te:TE):TE:=λσ H Q=>te σ H λv H1=>∃(d:Addr) (kvs:List (Key×V)) (ns:Ap) (qs:Fs),v= .ref d/\H1 d=some (.dK kvs)/\kvs.map (·.1)=ns.map Sum.inr/\ns.Nodup/\ns.length<64/\qs.length=ns.length/\
 (∀(i:Nat) v q,(kvs.map (·.2))[i]? =some v->qs[i]? =some q->Dp K H1 v q/\q.canLay0=true/\q.depth<=50)/\(∀n∈ns,(PyData.str n).canLay0=true)/\
 ∀(l:Addr) (H':Hp) (js:Dx) (ts:D1),g_ H1 H'->H1 l=none->H' l=some (.lst (ts.map V.ref))->ts.length=js.length->js.Perm (range ns.length)->(js.map λj=>ns.getD j "").Pairwise strLt->
  (∀i,i<js.length->H' (ts.getD i 0)=some (.tup [V.str (ns.getD (js.getD i 0) ""),(kvs.map (·.2)).getD (js.getD i 0) .aD]))->Q (.ref l) H'
theorem Vb{e:Expr}{te:TE}{p1 pos1 apos g:Pos}(hms:X.mg "sorted"=none)(hc:X.calm=true)(hu:X.A.units+64<cLine)(he:PE X e te)
  (hb:attributeBase e "items" X.env (eval e X.env)=eval e X.env:=by rfl)(U:(apos.endLine==g.line)=true:=by rfl)(hgs:Gl X "sorted":=by rfl)
  (hz:starEach [.Call (.Attribute e "items" apos) [] [] g] X.env=[(false,eval (.Call (.Attribute e "items" apos) [] [] g) X.env)]:=by rfl):
  PE X (.Call (.Name "sorted" p1) [.Call (.Attribute e "items" apos) [] [] g] [] pos1) (Yb X.K te):=by
 intro ae s σ H Q I h
 refine kO (jr I hgs hms (show bootBuiltins "sorted"=some (.builtin "sorted") by with_unfolding_all rfl) ?_)
 refine De ?_ hz rfl
 rw[hz]
 refine vd ?_
 refine wpAny_Call_method (T:="dict") (id:="dict.items") hb rfl U zd PySem.F.slot_dict_items PySem.F.type_dict_items (aQ (he ae s σ H _ I h) λu f ⟨v,H1,I1,r1,q1⟩=> ?_)
 obtain⟨d,kvs,ns,qs,rfl,hd,hk,hnd,h64,Zr,hdat,P,q⟩:=q1
 cases r1
 obtain⟨hz1,hs,vs,rel,dd⟩:=(show b9 X.prog X.w H1 f.heap d (.dK kvs) from I1.ar d _ hd)
 refine⟨dd.typeIs,dd.mapOf.noDict,?_⟩
 show wpAny _ _ (callWith g (.builtin "dict.items") [.ref d] [] []) _ _ _
 refine method_meetsIn PySem.F.slot_dict_items PySem.F.entry_dict_items rfl (PySem.evalArgs_none ⟨rfl,dd.typeIs,PySem.F.args_dict_items_1 _,_,meets_dict_items (c9 X.prog X.w) d hs,⟨vs,dd⟩,?_⟩)
 refine vf ?_
 have hlen:kvs.length=ns.length:=by
  have:=bM List.length hk
  simpa using this
 have G8:vs.length=ns.length:=by rw[<-rel.len,hlen]
 have Sw:∀b o,f.heap.get? b=some o->(f.heap.push {cls:= .type "dict_items",data:= .fields #[.ref d]}).get? b=some o:=λb o e=>bu _ e
 obtain⟨ep,hat⟩:=dd.dictAt
 have Q5:(f.heap.push {cls:= .type "dict_items",data:= .fields #[.ref d]}).DictAt (c9 X.prog X.w) d vs ep:=hat.push _
 have hvw:(f.heap.push {cls:= .type "dict_items",data:= .fields #[.ref d]}).IsItemsView f.heap.objs.size d:=⟨_,cS _ rfl,rfl,rfl⟩
 refine zc kind_sorted plain_sorted entry_sorted (args_sorted1 _) ?_
 unfold Builtin.«sorted»
 refine ai (m:=checkCount "sorted" 1 1 _) (aK ?_)
 refine ai (PySem.W.kdx_collect (A:=X.A.in1) (s:={f with heap:=f.heap.push {cls:= .type "dict_items",data:= .fields #[.ref d]}}) (I1.ok.hd hc) hvw Q5 (by rw[G8,kN];omega) λh1 tk as k1 hal hG=> ?_)
 have G:∀b o,f.heap.get? b=some o->h1.get? b=some o:=λb o e=>k1 b o (Sw b o e)
 have J:∀j,j<as.length->∃n t x y q,ns[j]? =some n/\(kvs.map (·.2))[j]? =some y/\qs[j]? =some q/\RelV y x/\h1.get? (as.getD j 0)=some {cls:= .type "tuple",data:= .seq #[Value.str n t,x]}/\(∃bs,Reads f.heap x q bs)/\q.canLay0=true/\q.depth<=50/\f.heap.objs.size<as.getD j 0:=λj c=>by
  have ea:as[j]? =some (as.getD j 0):=by rw[cO,aS c];rfl
  obtain⟨key,k,x,D,E,e3⟩:=hG.pairs j _ ea
  obtain⟨p,L,e6,e7⟩:=rel.at D
  have hjn:j<ns.length:=ω
  have en:ns[j]? =some ns[j]:=aS hjn
  have e8:(kvs.map (·.1))[j]? =some k:=by rw[bz,L];exact bM some e6
  rw[hk,bz,en] at e8
  have e9:k=Sum.inr ns[j]:=(Option.some.inj e8).symm
  rw[e9] at E
  have ey:(kvs.map (·.2))[j]? =some p.2:=by rw[bz,L];rfl
  have eq:qs[j]? =some (qs[j]' ω):=aS _
  obtain⟨d1,d2,d3⟩:=hdat j _ _ ey eq
  obtain⟨bs,rd⟩:=Dp.reads I1 _ _ x d1 e7
  have M:f.heap.objs.size<as.getD j 0:=by
   have:=hG.above _ (cF ea)
   have h2:(f.heap.push {cls:= .type "dict_items",data:= .fields #[.ref d]}).objs.size=f.heap.objs.size+1:=rJ ..
   have this:(f.heap.push {cls:= .type "dict_items",data:= .fields #[.ref d]}).objs.size<as.getD j 0:=this
   omega
  rcases ja (show kC (Sum.inr ns[j]) key=true from E) with⟨_,_,z,_⟩|⟨x',t,z,z2⟩
  .cases z
  .cases z
   subst z2
   exact⟨_,t,x,p.2,_,en,ey,eq,e7,e3,⟨bs,rd⟩,d2,d3,M⟩
 have Y:∀s':Shared,(∀b o,h1.get? b=some o->s'.heap.get? b=some o)->∀j,j<as.length->∃n q bs,ns[j]? =some n/\qs[j]? =some q/\Reads s'.heap (.ref (as.getD j 0)) (pJ n q) bs/\q.canLay0=true/\q.depth<=50:=λs' kp j c=>by
  obtain⟨n,t,x,y,q,D,E,e3,e4,L,⟨bs,rd⟩,e7,e8,_⟩:=J j c
  refine⟨n,q,_,D,e3,.tuple (kp _ _ L) rfl rfl (.cons (.str n t) (.cons (PyProof.Rows.Reads.keeps (λb o z=>kp b o (G b o z)) rd) .nil)),e7,e8⟩
 refine ai (vn ?_)
 have Z:(h1.push (seqObj "list" (as.map Value.ref).toArray 0)).get? h1.objs.size=some (seqObj "list" (as.map Value.ref).toArray 0):=cS _ rfl
 have keep:∀b o,h1.get? b=some o->(h1.push (seqObj "list" (as.map Value.ref).toArray 0)).get? b=some o:=λb o z=>bu _ z
 have ne:∀b o,h1.get? b=some o->b≠h1.objs.size:=λb o z=>bG (aW z)
 have BK:(as.map Value.ref).length=as.length:=θ
 have Bg:∀j,j<as.length->(as.map Value.ref).getD j Value.none= .ref (as.getD j 0):=λj c=>by
  rw[cO,bz,cO,aS c];rfl
 show wpAny _ _ _ _ _ {f with heap:=h1.push (seqObj "list" (as.map Value.ref).toArray 0),toks:=tk}
 refine ai (fV (jY zg ⟨_,Z,rfl⟩ zz ?body (zy _)))
 case body=>
  refine KP.HR (κ:=tuples' true) (O:=PyProof.Rows.strKind.toKeyOrd) (key:=λj=>(ns.getD j "").cps.toList) (s:={f with heap:=h1.push (seqObj "list" (as.map Value.ref).toArray 0),toks:=tk})
   Z (by rw[BK];omega) (λs' k h2 R hR=> ?_) (λs' k i j hi c C hC=> ?_) λp Hg hup=>⟨_,rfl,aK ⟨_,rfl,?_⟩⟩
  .have kp:∀b o,h1.get? b=some o->s'.heap.get? b=some o:=λb o z=>k b o (ne b o z) (keep b o z)
   obtain⟨fs,f1,f2,f3⟩:=kat_tups (h:=s'.heap) (vs:=as.map Value.ref) (qs:=(range as.length).map λj=>pJ (ns.getD j "") (qs.getD j .none)) θ λi v qq D E=>by
    have hi:i<as.length:=by
     have:=(bK.mp D).1
     simpa using this
    obtain⟨n,q,bs,g1,g2,g3,_,_⟩:=Y s' kp i hi
    rw[bz,List.getElem?_range hi] at E
    cases E
    have ev:(as.map Value.ref)[i]? =some (.ref (as.getD i 0)):=by rw[bz,cO,aS hi];rfl
    rw[ev] at D
    cases D
    have Ge:pJ (ns.getD i "") (qs.getD i .none)=pJ n q:=by
     rw[cO,cO,g1,g2]
     rfl
    exact⟨bs,n,[q],(show Reads s'.heap _ (pJ (ns.getD i "") (qs.getD i .none)) bs by rw[Ge];exact g3),Ge⟩
   refine kat_kind (T:=Value.type "str") f2 ω (λv hv=> ?_) δ hR
   obtain⟨x,t,rfl⟩:=f3 v hv
   exact PySem.W.Looks.of_pure rfl
  .have kp:∀b o,h1.get? b=some o->s'.heap.get? b=some o:=λb o z=>k b o (ne b o z) (keep b o z)
   rw[BK] at hi c
   obtain⟨n,q,bs,g1,g2,g3,g4,g5⟩:=Y s' kp i hi
   obtain⟨m,r,bs',D,E,e3,e4,L⟩:=Y s' kp j c
   have hl:=Tc (n:=n) (m:=m) (q:=q) (r:=r) g4 λz=>by
    rw[z] at g1
    have hij:i=j:=(getElem?_inj (bK.mp g1).1 hnd).mp (g1.trans D.symm)
    rw[hij] at g2
    exact Option.some.inj (g2.symm.trans E)
   have l1:=P n (cF g1)
   have l2:=P m (cF D)
   unfold PySem.W.kas_ask
   rw[Bg i hi,Bg j c]
   rw[cO,cO,g1,D] at hC
   refine KP.HB hl g3 e3 (by simp[canLay0,canLayAll0] at l1 ⊢;exact⟨l1,g4⟩) (by simp[canLay0,canLayAll0] at l2 ⊢;exact⟨l2,e4⟩) ?_ hC
   show X.A.units+1+1+min (depthAll [.str n,q]) (depthAll [.str m,r])<cLine
   simp only[depthAll,PyData.depth]
   omega
  .obtain⟨ee,G2⟩:=zh (out:=(p.toList.map λi=>(as.map Value.ref).getD i Value.none).toArray) Z
   generalize Q8:sortedHeap (h1.push (seqObj "list" (as.map Value.ref).toArray 0)) h1.objs.size (as.map Value.ref) (p.toList.map λi=>(as.map Value.ref).getD i Value.none).toArray=h3 at G2
   have HF:∀b o,h1.get? b=some o->h3.get? b=some o:=λb o z=>by
    rw[<-Q8,zj (ne b o z) (aW (keep b o z))]
    exact keep b o z
   have pm:=Df.mp Hg
   rw[BK] at pm
   have pin:∀j,j∈p.toList->j<as.length:=λj c=>pW.mp (pm.mem_iff.mp c)
   have G7:H1 h1.objs.size=none:=by
    cases e0:H1 h1.objs.size with
    |none=>rfl
    |some o=>
     obtain⟨u,z⟩:=(I1.ar _ _ e0).obj
     exact absurd rfl (ne _ _ (G _ _ z))
   have han:∀j,j<as.length->H1 (as.getD j 0)=none/\(∀u,f.heap.get? (as.getD j 0)≠some u):=λj c=>by
    obtain⟨_,_,_,_,_,_,_,_,_,_,_,_,_,M⟩:=J j c
    refine⟨I1.ar.fresh (gK M),λu z=> ?_⟩
    exact absurd (aW z) (Nat.not_lt.mpr (gK M))
   have Rg:∀j,j<as.length->as.getD j 0≠h1.objs.size:=λj c=>by
    obtain⟨_,_,_,_,_,_,_,_,_,L,_⟩:=J j c
    exact ne _ _ L
   have MG:∀i j,i<as.length->j<as.length->as.getD i 0=as.getD j 0->i=j:=λi j hi c e=>by
    have Rk:as.Nodup:=hG.rise.imp λ {a b} (z:a<b)=>bG z
    refine(getElem?_inj hi Rk).mp ?_
    rw[cO,cO,aS hi,aS c] at e
    rw[aS hi,aS c]
    exact bM some e
   let S:Nat->HO:=λj=> .tup [V.str (ns.getD j ""),(kvs.map (·.2)).getD j .aD]
   let B:HO:= .lst ((p.toList.map λj=>as.getD j 0).map V.ref)
   obtain⟨H',F0,F1,F2⟩:∃H':Hp,H' h1.objs.size=some B/\(∀j,j<as.length->H' (as.getD j 0)=some (S j))/\(∀b,b≠h1.objs.size->(∀j,j<as.length->b≠as.getD j 0)->H' b=H1 b):=by
    refine⟨λb=>if b=h1.objs.size then some B else match (range as.length).find? (λj=>decide (as.getD j 0=b)) with|some j=>some (S j)|none=>H1 b,by show(if h1.objs.size=h1.objs.size then some B else _)=_;rw[aB rfl],λj c=> ?_,λb hb hb2=> ?_⟩
    .show(if as.getD j 0=h1.objs.size then some B else _)=_
     rw[av (Rg j c)]
     have:(range as.length).find? (λj'=>decide (as.getD j' 0=as.getD j 0))=some j:=by
      rw[List.find?_range_eq_some]
      refine⟨θ,pW.mpr c,λi hi=> ?_⟩
      have:as.getD i 0≠as.getD j 0:=λz=>by
       have:=MG i j ω c z
       omega
      rw[d8 this];rfl
     rw[this]
    .show(if b=h1.objs.size then some B else _)=_
     rw[av hb]
     have:(range as.length).find? (λj=>decide (as.getD j 0=b))=none:=by
      rw[nS]
      intro j c
      have:=hb2 j (pW.mp c)
      simpa using Ne.symm this
     rw[this]
   have hold:g_ H1 H':=λb o z=>by
    rw[F2 b (λe=>by rw[e,G7] at z;cases z) λj c e=>by rw[e,(han j c).1] at z;cases z]
    exact z
   refine⟨.ref h1.objs.size,H',?_,rfl,q _ H' p.toList (p.toList.map λj=>as.getD j 0) hold G7 F0 θ (by rw[<-G8,<-hal];exact pm) ?_ λi hi=> ?_⟩
   .refine I1.xE (t':=tk) (λb o z=>HF b o (G b o z)) hold λb o z=> ?_
    by_cases c1:b=h1.objs.size
    .subst c1
     rw[F0] at z
     cases z
     refine .inr ⟨λu z=>absurd rfl (ne _ _ (G _ _ z)),?_⟩
     refine⟨by
      have:=pm.length_eq
      rw[pR] at this
      rw[aM,aM,this,kN];omega,(p.toList.map λj=>as.getD j 0).map Value.ref,ee,LG _,?_⟩
     have eo:(p.toList.map λj=>as.getD j 0).map Value.ref=p.toList.map λi=>(as.map Value.ref).getD i Value.none:=by
      rw[br]
      exact mL λj c=>(Bg j (pin j c)).symm
     rw[eo]
     exact G2
    .by_cases c2:∃j,j<as.length/\b=as.getD j 0
     .obtain⟨j,c,rfl⟩:=c2
      rw[F1 j c] at z
      cases z
      refine .inr ⟨(han j c).2,?_⟩
      obtain⟨n,t,x,y,q',D,E,e3,e4,L,_⟩:=J j c
      refine⟨by show 2<=sizeLine;decide,[Value.str n t,x],?_,⟨_,HF _ _ L⟩⟩
      rw[cO,cO,D,E]
      exact .cons ⟨t,rfl⟩ (.cons e4 .nil)
     .rw[F2 b c1 λj c e=>c2 ⟨j,c,e⟩] at z
      exact .inl z
   .rw[jy,List.pairwise_iff_getElem]
    intro i j hi c hij
    have Ro:=Hg.size
    have:=hup i j (gK hij) (by rw[<-Ro];simpa using c)
    unfold KO.kp at this
    have gi:p.getD i 0=p.toList[i]:=by
     rw[lR,gw (by simpa using hi)]
     simp
    have gj:p.getD j 0=p.toList[j]:=by
     rw[lR,gw (by simpa using c)]
     simp
    rw[gi,gj] at this
    have this:decide ((ns.getD p.toList[j] "").cps.toList<(ns.getD p.toList[i] "").cps.toList)=false:=this
    have hne:ns.getD p.toList[i] ""≠ns.getD p.toList[j] "":=λz=>by
     have i1:=pin _ (jV hi)
     have j1:=pin _ (jV c)
     have e0:p.toList[i]=p.toList[j]:=by
      refine(getElem?_inj ω hnd).mp ?_
      rw[cO,cO,aS ω,aS ω] at z
      rw[aS ω,aS ω]
      exact bM some z
     have Vz:p.toList.Nodup:=pm.nodup_iff.mpr List.nodup_range
     have:=(getElem?_inj hi Vz).mp (show p.toList[i]? =p.toList[j]? by rw[aS hi,aS c,e0])
     omega
    have t1:¬(ns.getD p.toList[j] "").cps.toList<(ns.getD p.toList[i] "").cps.toList:=by simpa using this
    show(ns.getD p.toList[i] "").cps.toList<(ns.getD p.toList[j] "").cps.toList
    by_cases z:(ns.getD p.toList[i] "").cps.toList<(ns.getD p.toList[j] "").cps.toList
    .exact z
    .refine absurd ?_ hne
     have e:=le_antisymm (kK.mp t1) (kK.mp z)
     generalize ns.getD p.toList[i] ""=a at e ⊢
     generalize ns.getD p.toList[j] ""=b at e ⊢
     obtain⟨⟨la⟩⟩:=a
     obtain⟨⟨lb⟩⟩:=b
     have e':la=lb:=e
     rw[e']
   .have N:i<p.toList.length:=hi
    have D:(p.toList.map λj=>as.getD j 0).getD i 0=as.getD (p.toList.getD i 0) 0:=by
     rw[cO,bz,aS N,cO (l:=p.toList),aS N]
     rfl
    rw[D]
    refine F1 _ (pin _ ?_)
    rw[cO,aS N]
    exact jV N
abbrev oS(p:Str×D):D:=.tup [.str p.1,p.2]
@[irreducible] def uT(r:Nat)(A:Ar)(R:DK):Prop:=∃rows:List (Str×D),A[r]?=some (.dct (rows.map λp=>(Sum.inr p.1,p.2)))/\(rows.map (·.1)).Nodup/\rows.length<64/\(∀p∈rows,fS p.2=true/\(toQ p.2).canLay0=true/\(toQ p.2).depth<=50/\(PyData.str p.1).canLay0=true)/\
 ∀rs:List (Str×D),rs.Perm rows->(rs.map (·.1)).Pairwise strLt->R (.ref A.length) (A++[.lst (rs.map oS)])
def Ay(m:aT):aT:=λτ A R=>m τ A λv A1=>match v with
 |.ref r=>uT r A1 R
 |_=>False
theorem K3{A:Ar}{r:Nat}{rows:List (Str×D)}{R:DK}(h:A[r]?=some (.dct (rows.map λp=>(Sum.inr p.1,p.2))))(a:(rows.map (·.1)).Nodup)(hl:rows.length<64)(b:∀p∈rows,fS p.2=true/\(toQ p.2).canLay0=true/\(toQ p.2).depth<=50/\(PyData.str p.1).canLay0=true)
  (q:∀rs:List (Str×D),rs.Perm rows->(rs.map (·.1)).Pairwise strLt->R (.ref A.length) (A++[.lst (rs.map oS)])):uT r A R:=by
 unfold uT;exact⟨rows,h,a,hl,b,q⟩
theorem RK.rows{mg:ay}{ι:Io}{n:Nat}{H:Hp}:∀{rows:List (Str×D)} {xs:List (Key×V)},RK mg ι n H (rows.map λp=>(Sum.inr p.1,p.2)) xs->xs.map (·.1)=(rows.map (·.1)).map Sum.inr/\aj mg ι n H (rows.map (·.2)) (xs.map (·.2))
 |[],xs,h=>by
  cases xs with
  |nil=>exact⟨rfl,rfl⟩
  |cons=>cases h
 |p::rows,xs,h=>by
  obtain⟨x,r,rfl,h1,h2⟩:=h;obtain⟨a,b⟩:=RK.rows h2;exact⟨by rw[cM,a];rfl,x,r.map (·.2),rfl,h1,b⟩
theorem Fz{X:Cx}{N:En}{e:Expr}{m:aT}{M w apos a:Pos}(O:X.mg "sorted"=none)(hc:X.calm=true)(hu:X.A.units+64<cLine)(he:PE X e (up X.mg N m))
  (hb:attributeBase e "items" X.env (eval e X.env)=eval e X.env:=by rfl)(g:(apos.endLine==a.line)=true:=by rfl)(P:Gl X "sorted":=by rfl)
  (hz:starEach [.Call (.Attribute e "items" apos) [] [] a] X.env=[(false,eval (.Call (.Attribute e "items" apos) [] [] a) X.env)]:=by rfl):
  PE X (.Call (.Name "sorted" M) [.Call (.Attribute e "items" apos) [] [] a] [] w) (up X.mg N (Ay m)):=
 dU (Vb O hc hu he hb g P hz) λσ H Q q=>by
  obtain⟨A,ι,τ,R,S,q,k⟩:=q
  refine⟨A,ι,τ,_,S,q,λv A1 Y8 H1 u s e1 T U=> ?_⟩
  match v,s,U with
  | .ref r,s,U=>
   obtain⟨_,rfl⟩:=U
   have s:uT r A1 R:=s
   unfold uT at s
   obtain⟨rows,hA,hn,hl,hp,q⟩:=s
   obtain⟨xs,hH,rk⟩:=T.dct hA
   obtain⟨hk,W⟩:=RK.rows rk
   have hlx:(xs.map (·.2)).length=rows.length:=by rw[<-aj.length W,aM]
   refine⟨_,xs,rows.map (·.1),rows.map λp=>toQ p.2,rfl,hH,hk,hn,by rw[aM];exact hl,θ,λi v p e2 x=> ?_,λn Y=> ?_,λl H' h ts sm Z f Ru y hup B=> ?_⟩
   .rw[bz] at x
    cases K:rows[i]? with
    |none=>rw[K] at x;cases x
    |some pr=>
     rw[K] at x
     cases x
     obtain⟨C,L,g2⟩:=aj.get W (i:=i) (d:=pr.2) (by rw[bz,K];rfl)
     rw[e2] at L
     cases L
     obtain⟨M,p2,p3,_⟩:=hp pr (cF K)
     exact⟨RV.dp _ _ M g2,p2,p3⟩
   .obtain⟨p,qN,rfl⟩:=aP.mp Y
    exact(hp p qN).2.2.2
   .have F:g_ H1 (λb=>if b=l then none else H' b):=λb u z=>by
     have:b≠l:=λe=>by rw[e,Z] at z;cases z
     show(if b=l then none else H' b)=some u
     rw[av this]
     exact sm b u z
    have eH:H'=ax (λb=>if b=l then none else H' b) l (.lst (ts.map V.ref)):=by
     funext b
     by_cases z:b=l
     .rw[z,dZ,f]
     .rw[aY z,av z]
    have E:=T.AX F
    have G:∀j∈h,j<rows.length:=λj o=>by
     have:=pW.mp (y.mem_iff.mp o)
     simpa using this
    have q2:=q (h.map λj=>rows.getD j ("",.aD)) (by
     have:=y.map λj=>rows.getD j ("",.aD)
     rw[aM,Ia] at this
     exact this) (by
     rw[br]
     have em:h.map ((λp:Str×D=>p.1)∘λj=>rows.getD j ("",.aD))=h.map λj=>(rows.map (·.1)).getD j ("":Str):=mL λj o=>by
      have:=G j o
      show(rows.getD j ("",.aD)).1=_
      rw[cO,cO,bz,aS this]
      rfl
     rw[em]
     exact hup)
    rw[eH]
    refine kF (k.from (e1.trans E)) (T.fix E F) (aj.of_get ?_ λi d p hd c=> ?_) q2 (by show(if l=l then none else H' l)=none;rw[aB rfl])
    .rw[aM,aM,aM,Ru]
    .rw[bz,bz] at hd
     rw[bz] at c
     cases I:h[i]? with
     |none=>rw[I] at hd;cases hd
     |some j=>
      rw[I] at hd
      cases hd
      have hi:i<h.length:=(bK.mp I).1
      have o:=G j (cF I)
      cases et:ts[i]? with
      |none=>rw[et] at c;cases c
      |some t=>
       rw[et] at c
       cases c
       have J:=B i hi
       have e4:h.getD i 0=j:=by rw[cO,I];rfl
       have e5:ts.getD i 0=t:=by rw[cO,et];rfl
       rw[e4,e5] at J
       obtain⟨C,L,g2⟩:=aj.get W (i:=j) (d:=(rows[j]).2) (by rw[bz,aS o];rfl)
       have e6:(xs.map (·.2)).getD j .aD=C:=by rw[cO,L];rfl
       have e7:rows.getD j ("",.aD)=rows[j]:=by rw[cO,aS o];rfl
       have e8:(rows.map (·.1)).getD j ("":Str)=(rows[j]).1:=by rw[cO,bz,aS o];rfl
       rw[e6,e8] at J
       have wV:(if t=l then none else H' t)=some (.tup [V.str (rows[j]).1,C]):=by
        rw[av (λz=>by rw[z,f] at J;cases J)]
        exact J
       show RV _ _ _ _ (.tup [.str (rows.getD j ("",.aD)).1,(rows.getD j ("",.aD)).2]) (.ref t)
       rw[e7]
       exact⟨t,_,rfl,wV,V.str (rows[j]).1,[C],rfl,rfl,C,[],rfl,RV.ext E _ _ g2,rfl⟩
end L2
variable{P:Program}{w:World}{K:Frag}{mg:ay}{base:Heap}
namespace L2
noncomputable def top(i:Nat):Stmt:=PySem.Challenge.pw_hangstill_k09_whole_settled.main.body.getD i (.Pass ⟨0,0,0,0⟩)
abbrev CD:Stmt:=top 15
abbrev pB:Ap:=[κh,"first","last"]
theorem KN:bB [κh,"first","last"] pB (aO CD):=bJ
abbrev CC:Stmt:=top 16
abbrev pA:Ap:=[κh]
theorem KL:bB [κh] pA (aO CC):=bJ
abbrev Kh:Stmt:=top 17
abbrev yd:Ap:=[κh,"rods"]
theorem WZ:bB [κh,"rods"] yd (aO Kh):=bJ
abbrev Kg:Stmt:=top 18
abbrev uE:Ap:=[κh]
theorem WY:bB [κh] uE (aO Kg):=bJ
abbrev J3:Stmt:=top 19
abbrev x_:Ap:=[κh]
theorem WO:bB [κh] x_ (aO J3):=bJ
abbrev Kl:Stmt:=top 20
abbrev ye:Ap:=[κh]
theorem W0:bB [κh] ye (aO Kl):=bJ
abbrev Km:Stmt:=top 21
abbrev yf:Ap:=[κh]
theorem W2:bB [κh,"names"] yf (aO Km):=bJ
abbrev J1:Stmt:=top 22
abbrev x8:Ap:=[κh]
theorem WM:bB [κh] x8 (aO J1):=bJ
abbrev Kc:Stmt:=top 24
abbrev uB:Ap:=["one",κj]
theorem WV:bB ["one",κj,"rest"] uB (aO Kc):=bJ
abbrev Ku:Stmt:=top 25
abbrev uG:Ap:=["top","bottom"]
theorem W9:bB ["top","bottom","divisor"] uG (aO Ku):=bJ
abbrev Kr:Stmt:=top 26
abbrev qX:Ap:=["one",κj]
theorem W7:bB ["one",κj] qX (aO Kr):=bJ
abbrev Ks:Stmt:=top 27
abbrev uF:Ap:=["one",κj]
theorem W8:bB ["one",κj] uF (aO Ks):=bJ
abbrev Ko:Stmt:=top 28
abbrev yh:Ap:=[κq]
theorem W4:bB [κq,"bottom","fraction","numbers","divisor","number"] yh (aO Ko):=bJ
abbrev Kz:Stmt:=top 30
abbrev yq:Ap:=[κk,"way",κB]
theorem KR:bB [κk,"way",κB,"both","left","right"] yq (aO Kz):=bJ
abbrev Kp:Stmt:=top 31
abbrev yi:Ap:=[κk]
theorem W5:bB [κk] yi (aO Kp):=bJ
abbrev Kn:Stmt:=top 32
abbrev yg:Ap:=[κq]
theorem W3:bB [κq,"names"] yg (aO Kn):=bJ
abbrev Ky:Stmt:=top 33
abbrev uH:Ap:=[κk]
theorem Xb:bB [κk] uH (aO Ky):=bJ
abbrev JZ:Stmt:=top 34
abbrev xZ:Ap:=[κk]
theorem WL:bB [κk,"first","way",κi,κB] xZ (aO JZ):=bJ
abbrev J2:Stmt:=top 37
abbrev x9:Ap:=[κh]
theorem WN:bB [κh,κk] x9 (aO J2):=bJ
abbrev Kf:Stmt:=top 38
abbrev uD:Ap:=["hall"]
theorem WX:bB ["hall"] uD (aO Kf):=bJ
abbrev KA:Stmt:=top 39
abbrev yr:Ap:=[κc,κi]
theorem Xc:bB [κc,κi,κC,κo,"table"] yr (aO KA):=bJ
abbrev Kq:Stmt:=top 40
abbrev yj:Ap:=[κc,"start"]
theorem W6:bB [κc,"start",κp,"reached","at","step"] yj (aO Kq):=bJ
abbrev Ke:Stmt:=top 41
abbrev qW:Ap:=[κc]
theorem KJ:bB [κc,κD,"seen","table",κi,κp] qW (aO Ke):=bJ
abbrev JY:Stmt:=top 42
abbrev xY:Ap:=[κC]
theorem WK:bB [κC] xY (aO JY):=bJ
abbrev J':Stmt:=top 43
abbrev uA:Ap:=[κc,κC]
theorem WT:bB [κc,κC,"ratio",κo,"one",κj] uA (aO J'):=bJ
abbrev J_:Stmt:=top 44
abbrev yb:Ap:=[κc]
theorem WS:bB [κc,κC,κo,"table","first"] yb (aO J_):=bJ
abbrev Ka:Stmt:=top 45
abbrev yc:Ap:=[κc]
theorem WU:bB [κc,κp,"group","step",κC] yc (aO Ka):=bJ
abbrev J4:Stmt:=top 46
abbrev uz:Ap:=[κc]
theorem WQ:bB [κc] uz (aO J4):=bJ
abbrev Kd:Stmt:=top 47
abbrev uC:Ap:=[κc,κp]
theorem WW:bB [κc,κp] uC (aO Kd):=bJ
abbrev J9:Stmt:=top 48
abbrev ya:Ap:=[κc,κD]
theorem WR:bB [κc,κD,κi,"number"] ya (aO J9):=bJ
abbrev Kw:Stmt:=top 49
abbrev yo:Ap:=["weights",κD]
theorem Xa:bB ["weights",κD,"scale",κi,"number"] yo (aO Kw):=bJ
abbrev KC:Stmt:=top 50
abbrev yt:Ap:=["hall"]
theorem Xd:bB ["hall",κc,κD,κp] yt (aO KC):=bJ
abbrev Kv:Stmt:=top 51
abbrev yk:Ap:=["hall",κD]
theorem W_:bB ["hall",κD,κc,"answer",κp,"known"] yk (aO Kv):=bJ
abbrev JN:Stmt:=top 53
abbrev xR:Ap:=[κa,κu]
theorem WA:bB [κa,κu] xR (aO JN):=bJ
abbrev JT:Stmt:=top 54
abbrev xT:Ap:=[κa,κu,κz]
theorem WH:bB [κa,κu,κz,"_law_drawn"] xT (aO JT):=bJ
abbrev JO:Stmt:=top 55
abbrev o_:Ap:=[κa,κe,κz]
theorem WB:bB [κa,κe,κz] o_ (aO JO):=bJ
abbrev JV:Stmt:=top 56
abbrev qV:Ap:=[κa,κe,κA]
theorem WI:bB [κa,κe,κA] qV (aO JV):=bJ
abbrev JP:Stmt:=top 57
abbrev xS:Ap:=[κa,κe]
theorem WC:bB [κa,κe,"_law_pool","_law_made",κu,"_law_left","_law_deep"] xS (aO JP):=bJ
abbrev JU:Stmt:=top 58
abbrev xU:Ap:=[κa,κe,"_law_left","_law_deep"]
theorem KG:bB [κa,κe,"_law_left","_law_deep","_law_arms",κs] xU (aO JU):=bJ
abbrev JS:Stmt:=top 59
abbrev uy:Ap:=[κl,κm]
theorem WG:bB [κl,κm] uy (aO JS):=bJ
abbrev JR:Stmt:=top 60
abbrev pq:Ap:=[κv,κr]
theorem WE:bB [κv,κr,κs,κw] pq (aO JR):=bJ
abbrev JX:Stmt:=top 61
abbrev xW:Ap:=[κl,κv,κr]
theorem KH:bB [κl,κv,κr,"_law_both",κs] xW (aO JX):=bJ
abbrev JM:Stmt:=top 62
abbrev uw:Ap:=[κd]
theorem Wz:bB [κd,"_law_made",κl,κx] uw (aO JM):=bJ
abbrev JQ:Stmt:=top 63
abbrev ux:Ap:=[κd,"_law_start"]
theorem WD:bB [κd,"_law_start","_law_books_here",κy,"_law_turn",κf,κs,κw,κv,κr,"_law_more"] ux (aO JQ):=bJ
abbrev JW:Stmt:=top 64
abbrev xV:Ap:=[κs,κw]
theorem WJ:bB [κs,κw] xV (aO JW):=bJ
abbrev JK:Stmt:=top 65
abbrev xP:Ap:=[κd]
theorem Wy:bB [κd,"_law_books_here","_law_first",κy,κf,κA] xP (aO JK):=bJ
abbrev CB:Stmt:=top 66
abbrev xX:Ap:=["_law_e"]
theorem KI:bB ["_law_e","_law_own"] xX (aO CB):=bJ
abbrev JL:Stmt:=top 67
abbrev xQ:Ap:=[κd,"_law_told"]
theorem KD:bB [κd,"_law_told","_law_e"] xQ (aO JL):=bJ
abbrev mC:Stmt:=top 68
abbrev Ce:Ap:=[κa]
theorem KQ:bB [κa,κe,κd,κx,κl,"_law_left_over","_law_odd",κg,κA,κf,"_law_told","_law_at","_law_due","_law_start",κt,κb,κv,κr,κn,"_law_whole"] Ce (aO mC):=bJ
open MA
theorem PR(T:TopD K mg "is_number" CD pB)(d:mg "isinstance"=none)(f:mg "bool"=none)(g:mg "int"=none):aC P w K mg base 1 "is_number" pB (aA mg 3 Ej):=by
 refine cg T KN λj k l m nd=>⟨_,(aF (cG (PW.pt (iL (f9 (kj HD d f boot_bool (vr 0))) (jo (fP (f9 (kj HE d g boot_int (vr 0))))))) (aG (a_ ie)) cJ)
  (aG (a_ (wB (vr 1) (vr 0) (vr 2))))),λds A R h hl=>?_⟩
 obtain⟨v,⟨i,a,b,rfl,rfl⟩,q⟩:=h;refine cD (λc=>?_) (λc=>?_)
 .have e:(decide (a<=i)&&decide (i<=b))=decide (i<=b):=by simp[c]
  rw[e] at q;exact q _ Gr.refl
 .have e:(decide (a<=i)&&decide (i<=b))=false:=by simp[c]
  rw[e] at q;exact q _ Gr.refl
theorem uv{c d:Nat}:([c]:Dx)<[d]↔c<d:=by simp[List.cons_lt_cons_iff]
theorem CF:("a":Str).cps.toList=[97]:=η
theorem CG:("z":Str).cps.toList=[122]:=η
theorem PO(T:TopD K mg "is_name" CC pA)(b:mg "isinstance"=none)(d:mg "str"=none)(g:mg "len"=none)(i:mg "all"=none){t:Tok}(a:mg "LONGEST_NAME"=some (.int 3 t)):aC P w K mg base 1 "is_name" pA (aA mg 1 Eg):=by
 refine cg T KL λr s k u nd=>⟨_,(aF (cG (PW.pt (iL (fP (f9 (kj BF b d boot_str (vr 0)))) (jo (fP (CZ ao (eW ia a3 g iE (aa (vr 0) ah)) (oB a)))))) (aG (a_ ie)) cJ)
  (aG (a_ (eW (vU rfl) v9 i boot_all (aa (gQ none (own:=["letter"]) (aw:=[]) (ix:=[]) rfl (AI (vr 0)) (λc=>(pG 0 (η:(["letter"]:Ap).Nodup))) (λc=>(wB cH (vr 0) cH))) ah))))),λds A R h hl=>?_⟩
 obtain⟨v,⟨n,rfl,j,rfl⟩,q⟩:=h;have C:n.length<=sizeLine:=d7 j.hi δ;have h1:=j.lo;have y:=j.hi;refine⟨C,cD (λ_=>?_) (λc=>absurd (ω:(1:Int)<=(n.length:Nat)) c)⟩;refine cN (λc=>absurd (ω:((n.length:Nat):Int)<=3) c) (λ_=>?_);refine ic (f:=λ_=>.bl true) trivial _ _ (λx k=>⟨[x],rfl,λQ l=>?_⟩) ?_ ?_
 .obtain⟨c,hc,rfl⟩:=aP.mp k
  obtain⟨z,B⟩:=j.az c hc;have m:¬((⟨#[c]⟩:Str).cps.toList<("a":Str).cps.toList):=by
   rw[CF];intro h;have:=uv.mp h;omega
  have o:¬(("z":Str).cps.toList<(⟨#[c]⟩:Str).cps.toList):=by
   rw[CG];intro h;have:=uv.mp h;omega
  refine cN (λ_=>?_) (λh=>absurd h m);have p:(!decide (("z":Str).cps.toList<(⟨#[c]⟩:Str).cps.toList))=true:=by rw[d8 o];rfl
  show Q (.bl (!decide (("z":Str).cps.toList<(⟨#[c]⟩:Str).cps.toList))) A;rw[p];exact l
 .have:(fE n).length=n.length:=by simp[fE,Str.length]
  show 0+(fE n).length<=sizeLine;omega
 .refine vO (bs:=(fE n).map λ_=>true) aN (qx _ _) ?_
  have e:((fE n).map λ_=>true).all id=true:=θ
  rw[e];exact q _ Gr.push
theorem PM(T:TopD K mg "is_mobile_within" Kh yd)(i:mg "isinstance"=none)(x:mg "str"=none)(u:mg "tuple"=none)(k:mg "len"=none){t:Tok}(g:mg "LONGEST_ARM"=some (.int 9 t))
  (o:aC P w K mg base 1 "is_name" pA (aA mg 1 Eg))(j:aC P w K mg base 1 "is_number" pB (aA mg 3 Ej)):∀d,aC P w K mg base (d+1) "is_mobile_within" yd (aA mg 2 (D9 d)):=by
 intro d;induction d with
 |zero=>
  refine tK T λds A R RE h=>?_;obtain⟨v,⟨m,_,_,h,_⟩,_⟩:=h;omega
 |succ d e=>
  refine lu T WZ rfl δ λN RE f I B outer s H E y Z z ds A R h hl=>?_;have p:=y.units;refine⟨_,(aF (cG (PW.pt (iL (fP (f9 (kj kit_tuple i u lO (vr 0)))) (iL (jS p (eW ia a3 k iE (aa (vr 0) ah)) ao) (jo (fP (f9 (kj BF i x boot_str (dX p (vr 0) ao)))))))) (aG (a_ ie)) cJ)
  (aF (cG (jS p (dX p (vr 0) ao) cH) (aG (a_ (AD (tE p (eW ia a3 k iE (aa (vr 0) ah)) ao) (AG (dL o y z (aa (dX p (vr 0) ao) ah)))))) cJ)
  (aF (cG (PW.pt (iL (jv p (dX p (vr 0) ao) cH) (iL (jv p (eW ia a3 k iE (aa (vr 0) ah)) ao) (jo (jS p (vr 1) ao))))) (aG (a_ ie)) cJ)
  (aF (cG (PW.pt (iL (fP (f9 (dL j y z (aa (dX p (vr 0) ao) (aa ao (aa (oB g) ah)))))) (jo (fP (f9 (dL j y z (aa (dX p (vr 0) ao) (aa ao (aa (oB g) ah))))))))) (aG (a_ ie)) cJ)
  (aG (a_ (AD (dL e y z (aa (dX p (vr 0) ao) (aa (wk (vr 1) ao) ah))) (AG (dL e y z (aa (dX p (vr 0) ao) (aa (wk (vr 1) ao) ah))))))))))),?_⟩
  obtain⟨v,⟨m,rfl,C,hd,rfl⟩,q⟩:=h;cases m with
  |wt n=>
   exact⟨rfl,_,⟨n,rfl,C.nm n (by simp[cu.names]),rfl⟩,q⟩
  |eZ l r a b=>
   obtain⟨⟨h1,h2,J,L,M,O⟩,F⟩:=C;have Q:max a.deep b.deep+1<d+1:=hd;have G:((d+1:Nat):Int) - 1 - 1=(d:Int) - 1:=ω
   have S:(decide (1<=l)&&decide (l<=9))=true:=by simp[h1,h2]
   have U:(decide (1<=r)&&decide (r<=9))=true:=by simp[J,L]
   refine cD (λc=>absurd c ω) (λ_=>?_);refine⟨rfl,_,⟨l,1,9,rfl,rfl⟩,λA1 V=>?_⟩;rw[S];refine⟨rfl,_,⟨r,1,9,rfl,rfl⟩,λA2 W=>?_⟩;rw[U];refine⟨rfl,_,⟨a,show [enc a,D.int (((d+1:Nat):Int) - 1 - 1)]=_ by rw[G],⟨M,λn h=>F n (by simp[cu.names,h])⟩,ω,rfl⟩,λA3 X=>?_⟩;refine⟨rfl,_,⟨b,show [enc b,D.int (((d+1:Nat):Int) - 1 - 1)]=_ by rw[G],⟨O,λn h=>F n (by simp[cu.names,h])⟩,ω,rfl⟩,λA4 Y=>?_⟩;exact q _ (((V.trans W).trans X).trans Y)
theorem PN(T:TopD K mg "is_mobile" Kg uE){t:Tok}(b:mg "MOST_RODS"=some (.int 5 t))(a:aC P w K mg base 7 "is_mobile_within" yd (aA mg 2 (D9 6))):aC P w K mg base 8 "is_mobile" uE (aA mg 1 zW):=by
 refine cg T WY λc f d g nd=>⟨_,(aG (a_ (dL a c d (aa (vr 0) (aa (oB b) ah))))),λds A R h hl=>?_⟩;obtain⟨v,⟨m,rfl,e,hd,rfl⟩,q⟩:=h;exact⟨rfl,_,⟨m,rfl,e,ω,rfl⟩,q⟩
theorem Pr(T:TopD K mg "check_mobile" J3 x_){a:Addr}(c:mg "NoMobile"=some (.ref a))(d:excIn K a mG "ValueError.__new__"=true)(b:aC P w K mg base 8 "is_mobile" uE (aA mg 1 zW)):aC P w K mg base 9 "check_mobile" x_ (aA mg 1 D5):=by
 refine cg T WO λe f g k nd=>⟨_,(aG (cG (fP (f9 (dL b e g (aa (vr 0) ah)))) (aG (oF f rfl c d (aa cH ah))) cJ)),λds A R h hl=>?_⟩;obtain⟨v,⟨m,rfl,i,hd,rfl⟩,q⟩:=h;exact⟨rfl,_,⟨m,rfl,i,hd,rfl⟩,λl j=>q _ j⟩
theorem pw_eq{ys ss:Ap}(h1:ys.Pairwise strLt)(h2:ss.Pairwise strLt)(b:∀x,x∈ys↔x∈ss):ys=ss:=by
 induction ys generalizing ss with
 |nil=>
  cases ss with
  |nil=>rfl
  |cons a r=>exact absurd ((b a).mpr (bw ..)) θ
 |cons y ys f=>
  cases ss with
  |nil=>exact absurd ((b y).mp (bw ..)) θ
  |cons a r=>
   have d:=iC.mp h1;have p2:=iC.mp h2;have e:y=a:=by
    have g:=(b y).mp (bw ..);have h:=(b a).mpr (bw ..);rcases bx.mp g with q|q
    .exact q
    rcases bx.mp h with q'|q'
    .exact q'.symm
    exact absurd (vv (p2.1 y q) (d.1 a q')) (kP _)
   subst e;rw[f d.2 p2.2 λx=>?_];constructor
   .intro c
    rcases bx.mp ((b x).mp (bq _ c)) with q|q
    .subst q;exact absurd (d.1 x c) (kP _)
    .exact q
   .intro c
    rcases bx.mp ((b x).mpr (bq _ c)) with q|q
    .subst q;exact absurd (p2.1 x c) (kP _)
    .exact q
theorem PB(T:TopD K mg "greatest_divisor" Kc uB):aC P w K mg base 1 "greatest_divisor" uB (aA mg 2 zT):=by
 refine cg T WV λp s t u nd=>⟨_,(aF (AM dP (Lj (vr 1) ao) (aF (dS 2 nd (qC (vr 0) (vr 1)))
  (aF (dS 0 nd (vr 1))
  (aG (dS 1 nd (vr 2))))))
  (aG (a_ (vr 0)))),λds A R h hl=>?_⟩
 obtain⟨v,⟨a,b,rfl,i,j,rfl⟩,q⟩:=h;refine⟨λn τ A'=>A'=A/\∃(x y:Int) (r:Option D),τ=[some (.int x),some (.int y),r]/\0<=x/\0<=y/\Int.gcd x y=Int.gcd a b/\n=y.toNat,⟨_,rfl,a,b,none,rfl,i,j,rfl,rfl⟩,?_⟩;rintro n τ A' ⟨rfl,x,y,r,rfl,h0,h1,g,rfl⟩;refine cD (λc=>?_) (λc=>?_)
 .refine⟨λτ k=>k=A'/\∃(f d:Int) (r:Option D),τ=[some (.int f),some (.int d),r]/\0<=f/\0<=d/\Int.gcd f d=Int.gcd a b/\d.toNat<y.toNat,λbT A' ⟨e,f,d,r',h1,h2,l,m,o⟩=>⟨_,o,e,f,d,r',h1,h2,l,m,rfl⟩,?_⟩
  have m0:=vB x (ω:y≠0);have z:=vA x (ω:0<y);exact⟨c,rfl,y,x%y,_,rfl,h1,m0,by rw[GL h0 c];exact g,ω⟩
 .have e:y=0:=ω
  subst e;have:(x:Int)=(Int.gcd a b:Int):=by rw[<-g,Int.gcd_zero_right];omega
  show R (.int x) A';rw[this];exact q _ Gr.refl
theorem Qc(T:TopD K mg "reduced" Ku uG)(c:aC P w K mg base 1 "greatest_divisor" uB (aA mg 2 zT)):aC P w K mg base 2 "reduced" uG (aA mg 2 vM):=by
 refine cg T W9 λf l g m nd=>⟨_,(aF (dS 2 nd (dL c f g (aa (vr 0) (aa (vr 1) ah))))
  (aG (a_ (bP (aa (oA (vr 0) (vr 2)) (aa (oA (vr 1) (vr 2)) ah)))))),λds A R h hl=>?_⟩
 obtain⟨v,⟨a,b,rfl,i,o,r,rfl⟩,q⟩:=h;have d:0<(Int.gcd a b:Int):=by
  have:=Int.gcd_pos_of_ne_zero_left b (ω:a≠0);omega
 have hl:(Int.gcd a b:Int)<=a:=le_of_dvd i (gcd_dvd_left a b);have e:(Int.gcd a b:Int).natAbs.log2<9000:=by
  have h1:(Int.gcd a b:Int).natAbs<2 ^ 2000:=ω
  have:=(log2_lt (n:=(Int.gcd a b:Int).natAbs) (k:=2000) ω).mpr h1;omega
 refine⟨rfl,_,⟨a,b,rfl,ω,ω,rfl⟩,λp j=>?_⟩;exact⟨⟨d,e⟩,⟨d,e⟩,(δ:2<=sizeLine),q _ j⟩
def fq(x:Rat):D:=.tup [.int (rf x).1,.int (rf x).2]
def yG(p:Str×Str×Rat):D:=.tup [.str p.1,.str p.2.1,fq p.2.2]
theorem yD{a b:Int}(c:0<b):rd a b=rf ((a:Rat)/(b:Rat)):=yE c
def mZ:Ct:=λds A R _=>∃a b c d:Int,ds=[.tup [.int a,.int b],.tup [.int c,.int d]]/\0<a/\0<b/\0<c/\0<d/\c<2 ^ 64/\d<2 ^ 64/\a*c<2 ^ 2000/\∀A',Gr A A'->R (fq (((a:Rat)/(b:Rat))*((c:Rat)/(d:Rat)))) A'
theorem mul_div{a b c d:Int}(e:0<b)(hd:0<d):((a*c:Int):Rat)/((b*d:Int):Rat)=((a:Rat)/(b:Rat))*((c:Rat)/(d:Rat)):=by
 have h1:=gP (fW e);have h2:=gP (fW hd);rw[gv,gv];grind
def Ep(d:Nat):Ct:=λds A R _=>∃m w x,ds=[enc m,.str w,fq x]/\m.arms/\m.deep<d/\d<=6/\w.length+d<=100/\0<x/\(rf x).1*18 ^ m.deep<=1000000000/\∀A' q,Gr A A'->A'[q]?=some (.lst ((cA m w x).map yG))->A.length<=q->R (.ref q) A'
def z0:Ct:=λds A R _=>∃m,ds=[enc m]/\Wf m/\m.deep<=5/\∀A' q,Gr A A'->A'[q]?=some (.lst ((cA m "" 1).map yG))->A.length<=q->R (.ref q) A'
theorem ER{a:Int}(h:a<=1000000000000):a<2 ^ 2000:=pU h (rT (δ:(1000000000000:Int)<2 ^ 64) (by
 have:(2:Nat) ^ 64<=2 ^ 2000:=iT δ δ;exact_mod_cast this))
theorem P8(T:TopD K mg "product" Kr qX)(e:aC P w K mg base 2 "reduced" uG (aA mg 2 vM)):aC P w K mg base 3 "product" qX (aA mg 2 mZ):=by
 refine cg T W7 λj s k f nd=>⟨_,(aG (a_ (dL e j k (aa (eT (dX f (vr 0) ao) (dX f (vr 1) ao)) (aa (eT (dX f (vr 0) ao) (dX f (vr 1) ao)) ah))))),λds A R h hl=>?_⟩;obtain⟨a,b,c,d,rfl,h1,h2,l,i,m,n,o,q⟩:=h;refine⟨.inr ⟨ω,m⟩,.inr ⟨ω,n⟩,rfl,_,⟨_,_,rfl,dm h1 l,dm h2 i,o,rfl⟩,λp r=>?_⟩;have g:=q p r;rw[<-mul_div h2 i] at g;unfold fq at g;rw[<-yD (dm h2 i)] at g;exact g
theorem P_(T:TopD K mg "quotient" Ks uF)(f:aC P w K mg base 2 "reduced" uG (aA mg 2 vM)):aC P w K mg base 3 "quotient" uF (aA mg 2 (λds A R E=>∃a b c d:Int,ds=[.tup [.int a,.int b],.tup [.int c,.int d]]/\mZ [.tup [.int a,.int b],.tup [.int d,.int c]] A R E)):=by
 refine cg T W8 λk t l g nd=>⟨_,(aG (a_ (dL f k l (aa (eT (dX g (vr 0) ao) (dX g (vr 1) ao)) (aa (eT (dX g (vr 0) ao) (dX g (vr 1) ao)) ah))))),λds A R h hl=>?_⟩;obtain⟨a,b,c,d,rfl,u,v,x,y,e,h1,h2,m,j,n,o,p,q⟩:=h;cases e;refine⟨.inr ⟨ω,n⟩,.inr ⟨ω,o⟩,rfl,_,⟨_,_,rfl,dm h1 m,dm h2 j,p,rfl⟩,λr s=>?_⟩;have i:=q r s;rw[<-mul_div h2 j] at i;unfold fq at i;rw[<-yD (dm h2 j)] at i;exact i
theorem Qi(T:TopD K mg "shares_below" Kz yq)(e:aC P w K mg base 3 "product" qX (aA mg 2 mZ)):∀d,aC P w K mg base (d+3) "shares_below" yq (aA mg 3 (Ep d)):=by
 intro d;induction d with
 |zero=>
  refine tK T λds A R RE h=>?_;obtain⟨m,w,x,_,_,h,_⟩:=h;omega
 |succ d c=>
  refine lu T KR rfl δ λN RE f D B outer s H E j V k ds A R h hl=>?_;have g:=j.units;have nd:=KR.nd;refine⟨_,(aF (cG (jS g (dX g (vr 0) ao) cH) (aG (a_ (dO (aa (bP (aa (vr 1) (aa (dX g (vr 0) ao) (aa (vr 2) ah)))) ah)))) cJ)
  (aF (dS 3 nd (fC (dX g (vr 0) ao) (dX g (vr 0) ao)))
  (aF (dS 4 nd (dL e j k (aa (vr 2) (aa (bP (aa (dX g (vr 0) ao) (aa (vr 3) ah))) ah))))
  (aF (dS 5 nd (dL e j k (aa (vr 2) (aa (bP (aa (dX g (vr 0) ao) (aa (vr 3) ah))) ah))))
  (aG (a_ (fC (dL c j k (aa (dX g (vr 0) ao) (aa (fC (vr 1) cH) (aa (vr 4) ah)))) (dL c j k (aa (dX g (vr 0) ao) (aa (fC (vr 1) cH) (aa (vr 5) ah))))))))))),?_⟩
  obtain⟨m,w,x,rfl,F,hd,W,X,i,o,q⟩:=h;have Y:(1000:Nat)<=sizeLine:=δ
  cases m with
  |wt n=>exact⟨(δ:3<=sizeLine),(δ:1<=sizeLine),q _ _ Gr.push aN (aJ _)⟩
  |eZ l r a b=>
   have G:max a.deep b.deep+1<d+1:=hd;obtain⟨u,Z,v,r4,p,t⟩:=F;have ll:("l":Str).length=1:=η
   have lr:("r":Str).length=1:=η
   have al:∀x y:Str,(x++y).length=x.length+y.length:=λx y=>size_append;have np:=cV i;have dp:=cj x;have o:(rf x).1*18 ^ (max a.deep b.deep+1)<=1000000000:=o;have n1:(rf (x*((r:Rat)/((l+r:Int):Rat)))).1<=(rf x).1*18:=fh (num_mul ω (rH ω ω)) (rV ω ω);have n2:(rf (x*((l:Rat)/((l+r:Int):Rat)))).1<=(rf x).1*18:=fh (num_mul ω (rH ω ω)) (rV ω ω);obtain⟨k1,_,k0⟩:=FH o n1 np;obtain⟨_,k2,_⟩:=FH o n2 np;have I:0<x*((r:Rat)/((l+r:Int):Rat)):=cu.step_pos u v i;have p2:0<x*((l:Rat)/((l+r:Int):Rat)):=by
    have:=cu.step_pos (l:=r) (r:=l) v u i;rwa [add_comm r l] at this
   have m1:(rf x).1*r<=1000000000*18:=dc k0 ω ω ω;have m2:(rf x).1*l<=1000000000*18:=dc k0 ω ω ω;have J:(18:Int)<2 ^ 64:=δ
   refine⟨(δ:2<=sizeLine),rfl,_,_,_,_,rfl,np,dp,ω,ω,ω,ω,ER ω,λA1 L=>?_⟩;refine⟨(δ:2<=sizeLine),rfl,_,_,_,_,rfl,np,dp,ω,ω,ω,ω,ER ω,λA2 M=>?_⟩;rw[gc];refine⟨ω,rfl,a,_,_,rfl,p,ω,ω,by rw[al];omega,I,k1,λA3 q3 O Q _=>?_⟩;refine⟨ω,rfl,b,_,_,rfl,t,ω,ω,by rw[al];omega,p2,k2,λS q4 z U _=>?_⟩;have z1:=o5 (m:=a) ω;have z2:=o5 (m:=b) ω;have C:Gr A S:=((L.trans M).trans O).trans z;refine ow (z.get Q) U (by simp[pM];omega) (q _ _ (C.trans Gr.push) ?_ C.len);rw[aN];simp[cA]
theorem Qh(T:TopD K mg "shares" Ky uH)(a:aC P w K mg base 9 "check_mobile" x_ (aA mg 1 D5))(b:aC P w K mg base 9 "shares_below" yq (aA mg 3 (Ep 6))):aC P w K mg base 10 "shares" uH (aA mg 1 z0):=by
 refine cg T Xb λc j d k nd=>⟨_,(aF (f7 (dL a c d (aa (vr 0) ah)))
  (aG (a_ (dL b c d (aa (vr 0) (aa cH (aa (bP (aa ao (aa ao ah))) ah))))))),λds A R h hl=>?_⟩
 obtain⟨m,rfl,f,hd,q⟩:=h;refine⟨rfl,_,⟨m,rfl,f,hd,rfl⟩,λl g=>?_⟩;have n:(D.tup [.int 1,.int 1])=fq 1:=rfl;refine⟨(δ:2<=sizeLine),rfl,m,_,1,rfl,f.arms,ω,ω,η,δ,?_,λo r i h2 l2=>q _ _ (g.trans i) h2 (d7 g.len l2)⟩;have p:=qZ hd;have e:(18:Int) ^ 5=1889568:=δ
 rw[e] at p;show(1:Int)*18 ^ m.deep<=1000000000;omega
noncomputable def bD:Option (Str×Str)->D
 |some p=>.tup [.str p.1,.str p.2]
 |none=>.aD
def DY:Ct:=λds A R _=>∃m,ds=[enc m]/\Wf m/\m.deep<=5/\∀A',Gr A A'->R (bD (fN [] (cA m "" 1))) A'
theorem wK(k:Key)(v:D)(c:Key):∀kvs:List (Key×D),bA (cQ kvs k v) c=if k=c then some v else bA kvs c:=by
 intro kvs;by_cases f:(kvs.any λb=>decide (b.1=k))=true
 .have e:cQ kvs k v=kvs.map λb=>if b.1=k then (b.1,v) else b:=by
   unfold cQ;rw[aB f]
  rw[e];clear e;induction kvs with
  |nil=>simp at f
  |cons p r i=>
   by_cases d:p.1=k
   .rw[cM,aB d]
    unfold bA;by_cases a:k=c
    .rw[aB a,aB (by rw[<-a];exact d)]
    .rw[av a,av (λz=>a (by rw[<-d];exact z))]
     rw[av (λz=>a (by rw[<-d];exact z))];by_cases h:(r.any λb=>decide (b.1=k))=true
     .rw[i h,av a]
     .have:r.map (λb=>if b.1=k then (b.1,v) else b)=r:=by
       rw[mL (g:=id)]
       .simp
       .intro q j
        rw[av]
        .rfl
        .intro z
         exact h (jZ.mpr ⟨q,j,dg z⟩)
      rw[this]
   .have h:(r.any λb=>decide (b.1=k))=true:=by simpa[d] using f
    rw[cM,av d];unfold bA;by_cases a:p.1=c
    .rw[aB a,av (λz=>d (by rw[z];exact a)),aB a]
    .rw[av a,av a]
     exact i h
 .have e:cQ kvs k v=kvs++[(k,v)]:=by
   unfold cQ;rw[av f]
  rw[e];clear e;induction kvs with
  |nil=>simp[bA]
  |cons p r i=>
   have d:p.1≠k:=λz=>f (by simp[z]);have h:¬(r.any λb=>decide (b.1=k))=true:=λz=>f (by simp[z]);show(if p.1=c then some p.2 else bA (r++[(k,v)]) c)=if k=c then some v else (if p.1=c then some p.2 else bA r c)
   by_cases a:p.1=c
   .rw[aB a,av (λz=>d (by rw[z];exact a)),aB a]
   .rw[av a,av a]
    exact i h
theorem V2(kvs:List (Key×D))(k:Key)(v:D):(cQ kvs k v).length<=kvs.length+1:=by
 unfold cQ;split<;>simp
theorem yz{A:Ar}{r:Nat}{kvs:List (Key×D)}{y v:D}{k:Key}{R:Ar->Prop}(h:A[r]?=some (.dct kvs))(a:f_ y=some k)(hl:kvs.length<sizeLine)(q:R (A.set r (.dct (cQ kvs k v)))):uL r y v A R:=by
 unfold uL;simp only[h,a];exact⟨hl,q⟩
theorem QF{A:Ar}{r:Nat}{c a:C}(h:A[r]?=some c):(A.set r a)[r]?=some a:=by
 rw[eG (bK.mp h).1]
theorem oU(x:Rat):(toQ (fq x)).canLay0=true:=by simp[fq,toQ,bF,canLay0,canLayAll0]
theorem FI(x:Rat):(toQ (fq x)).depth<=64:=by simp[fq,toQ,bF,PyData.depth,depthAll]
theorem wC(x y:Rat):PyData.eqv (toQ (fq x)) (toQ (fq y))=decide (x=y):=by
 by_cases h:x=y
 .subst h
  simp[fq,toQ,bF,PyData.eqv,eqvAll]
 .rw[d8 h]
  have:¬((rf x).1=(rf y).1/\(rf x).2=(rf y).2):=λz=>h (Wd (Prod.ext z.1 z.2));by_cases h1:(rf x).1=(rf y).1
  .have h2:¬(rf x).2=(rf y).2:=λz=>this ⟨h1,z⟩
   simp[fq,toQ,bF,PyData.eqv,eqvAll,h2]
  .simp[fq,toQ,bF,PyData.eqv,eqvAll,h1]
theorem xK{x y:Rat}{A:Ar}{R:DK}(k:R (.bl (!decide (x=y))) A):f6 true (fq x) (fq y) A R:=by
 unfold f6;have h1:cW A (fq x)=toQ (fq x):=rfl;have h2:cW A (fq y)=toQ (fq y):=rfl;rw[h1,h2];have:=FI x;refine⟨rfl,rfl,oU x,oU y,ω,?_⟩;rw[wC];exact k
theorem O3{x y:Rat}{A:Ar}{R:DK}(k:R (.bl (decide (x=y))) A):f6 false (fq x) (fq y) A R:=by
 unfold f6;have h1:cW A (fq x)=toQ (fq x):=rfl;have h2:cW A (fq y)=toQ (fq y):=rfl;rw[h1,h2];have:=FI x;refine⟨rfl,rfl,oU x,oU y,ω,?_⟩;rw[wC];exact k
theorem Gn{pre:List (Str×Str×Rat)}{p:Str×Str×Rat}{n:Str}:(pre++[p]).find? (λq=>decide (q.2.1=n))=match pre.find? (λq=>decide (q.2.1=n)) with|some q=>some q|none=>if p.2.1=n then some p else none:=by
 rw[find?_append];cases pre.find? (λq=>decide (q.2.1=n)) with
 |some q=>rfl
 |none=>
  by_cases h:p.2.1=n
  .simp[h]
  .simp[h]
theorem Pn(T:TopD K mg "bar" JZ xZ)(f:aC P w K mg base 10 "shares" uH (aA mg 1 z0)):aC P w K mg base 11 "bar" xZ (aA mg 1 DY):=by
 refine cg T WL λO Y Q o nd=>⟨_,(aF (dS 1 nd wh)
  (aF (d_ dP rfl (cz (dL f O Q (aa (vr 0) ah))) (k8 rfl (fK (dG 2 nd) (fK (dG 3 nd) (fK (dG 4 nd) k9)))) (aG (cG (uX o (vr 3) (vr 1)) (aG (wz o (vr 1) (vr 3) (bP (aa (vr 2) (aa (vr 4) ah))) rfl)) (aG (cG (jv o (dX o (dX o (vr 1) (vr 3)) ao) (vr 4)) (aG (a_ (bP (aa (dX o (dX o (vr 1) (vr 3)) ao) (aa (vr 2) ah))))) cJ)))))
  (aG (a_ sY)))),λds A R h hl=>?_⟩
 obtain⟨m,rfl,S,hd,q⟩:=h;obtain⟨r,k⟩:∃t,t=fN [] (cA m "" 1):=⟨_,rfl⟩;rw[<-k] at q;refine⟨rfl,m,rfl,S,hd,λU M H h1 l1=>?_⟩;have l1:A.length+1<=M:=by simpa using l1
 refine dB h1 ?_;have ln:=pM m "" 1;have nl:=o5 hd;have hz:(1000:Nat)<=sizeLine:=δ
 have V:=H.get (aN (A:=A) (c:=C.dct []));refine dW (λrest τ A'=>∃(pre a:List (Str×Str×Rat)) (kvs:List (Key×D)) (x y z:Option D),rest=a.map yG/\τ=[some (enc m),some (.ref A.length),x,y,z]/\pre++a=cA m "" 1/\fN pre a=r/\A'[A.length]?=some (.dct kvs)/\kvs.length<=pre.length/\(∀n:Str,bA kvs (Sum.inr n)=(pre.find? λq=>decide (q.2.1=n)).map λp=>.tup [.str p.1,fq p.2.2])/\eK A.length U A'/\A.length+1<=A'.length) ?_ ?_ ?_ _ _ _ ⟨[],cA m "" 1,[],none,none,none,rfl,rfl,rfl,k.symm,V,aJ _,λn=>rfl,eK.refl,by have:=H.len;simpa using this⟩
 .rintro rest τ A' ⟨pre,a,kvs,x,y,z,_,_,_,_,_,_,_,b,_⟩
  exact b M _ ω h1
 .rintro v rest τ A' ⟨pre,a,kvs,x,y,z,e,rfl,I,d,s,W,J,b,u⟩ Z N
  cases a with
  |nil=>cases e
  |cons p a=>
   cases e;obtain⟨l,n,i⟩:=p;have g:=J n;have X:pre.length<=32:=by
    have:(pre++(l,n,i)::a).length=(cA m "" 1).length:=by rw[I]
    simp at this;omega
   unfold fN at d;refine⟨rfl,oQ s rfl ?_⟩;cases j:pre.find? (λq=>decide (q.2.1=n)) with
   |none=>
    rw[j] at g d;have g:bA kvs (Sum.inr n)=none:=g;rw[g];refine⟨(δ:2<=sizeLine),yz s rfl ω ?_⟩;refine N _ _ ⟨pre++[(l,n,i)],a,_,_,_,_,rfl,rfl,by simpa using I,d,QF s,?_,λn'=>?_,b.trans eK.set,by simpa using u⟩
    .have:=V2 kvs (Sum.inr n) (.tup [.str l,fq i])
     simp;omega
    .rw[wK,Gn]
     by_cases E:n=n'
     .subst E
      rw[aB rfl,j];simp
     .rw[av (λz=>E (Sum.inr.inj z)),J n']
      cases pre.find? (λq=>decide (q.2.1=n')) with
      |some q=>rfl
      |none=>simp[E]
   |some B=>
    rw[j] at g d;have g:bA kvs (Sum.inr n)=some (.tup [.str B.1,fq B.2.2]):=g;rw[g];refine gC s rfl g ?_;refine xK ?_;by_cases L:B.2.2=i
    .have d:(if B.2.2=i then fN (pre++[(l,n,i)]) a else some (B.1,l))=r:=d
     rw[aB L] at d;refine cN (λc=>absurd L c) (λ_=>?_);refine N _ _ ⟨pre++[(l,n,i)],a,kvs,_,_,_,rfl,rfl,by simpa using I,d,s,by simp;omega,λn'=>?_,b,u⟩;rw[Gn,J n'];cases F:pre.find? (λq=>decide (q.2.1=n')) with
     |some q=>rfl
     |none=>
      by_cases E:n=n'
      .subst E
       rw[j] at F;cases F
      .simp[E]
    .have d:(if B.2.2=i then fN (pre++[(l,n,i)]) a else some (B.1,l))=r:=d
     rw[av L] at d;refine cN (λ_=>?_) (λc=>absurd c L);refine gC s rfl g ?_;refine⟨(δ:2<=sizeLine),?_⟩;have G:=q A' (Gr.Iz (Gr.push.trans H) (aJ _) b);rw[<-d] at G;exact G
 .rintro τ A' ⟨pre,a,kvs,x,y,z,e,rfl,I,d,s,W,J,b,u⟩
  cases a with
  |cons p a=>cases e
  |nil=>
   have G:=q A' (Gr.Iz (Gr.push.trans H) (aJ _) b);rw[<-d] at G;exact G
theorem Pq(T:TopD K mg "_law_cell_at" JN xR)(a:mg "len"=none):aC P w K mg base 1 "_law_cell_at" xR (aA mg 2 D3):=by
 refine cg T WA λi j l d nd=>⟨_,(aF (cG (C0 (vr 1) (eW ia a3 a iE (aa (vr 0) ah))) (aG (a_ (dX d (vr 0) (vr 1)))) cJ)
  (aF (cG (jS d (vr 0) (dO ah)) (aG (a_ ao)) cJ)
  (aG (a_ (fC (eT (dX d (vr 0) (qC (vr 1) (eW ia a3 a iE (aa (vr 0) ah)))) ao) (vr 1)))))),λds A R h hl=>?_⟩
 obtain⟨ns,k,rfl,g,q⟩:=h;refine cD (λc=>?_) (λc=>?_)
 .obtain⟨v,e,_⟩:=vR g c
  conv=>whnf
  rw[e];exact q v _ Gr.refl
 .refine⟨b_ _,O2 ?_⟩
  refine cD (λf=>?_) (λf=>?_)
  .exact q _ _ Gr.push
  .have b:0<(ns.length:Int):=by
    have:=za.mpr f;omega
   obtain⟨v,e,_⟩:=vR (xs:=ns) (vB k ω) (vA k b);refine⟨b,?_⟩;conv=>whnf
   rw[e];exact⟨.inr ⟨δ,δ⟩,q _ _ Gr.push⟩
theorem P1(T:TopD K mg "_law_mixed" JT xT)(a:aC P w K mg base 1 "_law_cell_at" xR (aA mg 2 D3)):aC P w K mg base 2 "_law_mixed" xT (aA mg 3 Ed):=by
 refine cg T WH λc f d j nd=>⟨_,(aF (dS 3 nd (qC (eT (fC (fC (dL a c d (aa (vr 0) (aa (vr 1) ah))) (eT ao (vr 1))) ao) ao) ao))
  (aG (a_ (qC (qC (fC (fC (eT (vr 3) (vr 3)) (eT ao (vr 3))) (vr 1)) ao) (vr 2))))),λds A R h hl=>?_⟩
 obtain⟨ns,k,m,rfl,e,b,q⟩:=h;refine⟨rfl,ns,k,rfl,e,λi A' g=>?_⟩;refine⟨.inl ⟨δ,δ⟩,.inr ⟨δ,δ⟩,(by decide:(0:Int)<2147483647),?_⟩;have l:=vB ((i+7919*k+1)*48271) (δ:(2147483647:Int)≠0);have n:=vA ((i+7919*k+1)*48271) (δ:(0:Int)<2147483647);have o:(2147483647:Int)<2 ^ 64:=δ
 refine⟨.inl ⟨ω,ω⟩,.inl ⟨δ,δ⟩,(by decide:(0:Int)<2147483629),b,?_⟩;exact q _ _ (vB _ ω) (vA _ b) g
theorem Pz(T:TopD K mg "_law_draw" JO o_)(b:mg "len"=none)(a:aC P w K mg base 2 "_law_mixed" xT (aA mg 3 Ed)):aC P w K mg base 3 "_law_draw" o_ (aA mg 3 l9):=by
 refine cg T WB λe k f l nd=>⟨_,(aF (f7 (ig iD rO rX oY qB (vr 1) (aa ao ah)))
  (aG (a_ (dL a e f (aa (vr 0) (aa (eW ia a3 b iE (aa (vr 1) ah)) (aa (vr 2) ah))))))),λds A R h hl=>?_⟩
 obtain⟨ns,t,m,n,rfl,⟨xs,d,p⟩,o,j,q⟩:=h;refine⟨gn d,qv d (by rw[sizeLine];omega) ?_⟩;have c:(A.set t (.lst (xs++[.int 0])))[t]?=some (.lst (xs++[.int 0])):=get_set d;refine oV c ⟨rfl,ns,_,m,rfl,ω,j,λi A' h0 h1 g=>?_⟩;exact q i A' h0 h1 (eK.set.trans g.but) (Tw.gr ⟨_,c,by simpa using p⟩ g)
theorem P7(T:TopD K mg "_law_pick" JV qV)(c:mg "len"=none)(a:aC P w K mg base 3 "_law_draw" o_ (aA mg 3 l9)):aC P w K mg base 4 "_law_pick" qV (aA mg 3 sD):=by
 refine cg T WI λd o e g nd=>⟨_,(aG (a_ (dX g (vr 2) (dL a d e (aa (vr 0) (aa (vr 1) (aa (eW ia a3 c iE (aa (vr 2) ah)) ah))))))),λds A R h hl=>?_⟩;obtain⟨ns,t,r,xs,n,rfl,f,d,e,j,k,q⟩:=h;have p:=za.mpr e;refine oV d ⟨rfl,ns,t,_,n,rfl,j,k,ω,λi A' h0 h1 b s=>?_⟩;obtain⟨v,l,m⟩:=vR h0 h1;exact iN (b r _ f d) l (q v A' m b s)
theorem Ez:("abcdefghijklmnopqrstuvwxyz":Str).cps.toList=(range 26).map (·+97):=η
theorem lW.Uo{P:Program}{w:World}{K:Frag}{mg:ay}{base:Heap}{x:Str}{st:Stmt}{N ps:Ap}{k:Nat}{sp:Sp}{f:Addr}{fd:FuncData}(F:lW K x x st f fd)(S:bB N ps (aO st))(len:∀vs H Q E,sp vs H Q E->vs.length=ps.length)
  (b:∀(f:Addr) (a:Value) (A:Around) (outer:Fh) (s:Shared) (H:Hp) (vs:Bn) (Q:VK) (E:XK),eL k (A.deeper (envOfC x (aO st) s.heap.objs.size f a))->sp vs H Q E->
   ∃t,dF (cU (bU P w) P w K mg base N x (aO st) f a A outer s H E) (ir st) t/\t {nx:=λ_ H'=>Q .aD H',rt:=Q} (start N vs) H):gx P w K mg base (bU P w) (k+1) f fd ps sp:=by
 obtain⟨h,i,kV,doc,pm,an,a,ct,e,rfl,lk,c⟩:=F.ex;exact Gw lk c S len λA outer s H vs Q E g d=>b f a A outer s H vs Q E g d
theorem Qq{P:Program}{w:World}{K:Frag}{mg:ay}{base:Heap}{x:Str}{st:Stmt}{Nm ps:Ap}{k n:Nat}{S:Ct}{u:Addr}{fd:FuncData}(T:lW K x x st u fd)(Sc:bB Nm ps (aO st))(F:ps.length=n)(X:ps.length<=Nm.length)
  (j:∀(N:En) (RE:DX) (f:Addr) (g:Value) (B:Around) (outer:Fh) (s:Shared) (H:Hp) (E:XK),eL k (cU (bU P w) P w K mg base Nm x (aO st) f g B outer s H E).A->
   Raises (cU (bU P w) P w K mg base Nm x (aO st) f g B outer s H E) (EL mg N RE)->Passes (bU P w) (cU (bU P w) P w K mg base Nm x (aO st) f g B outer s H E) (EL mg N RE)->
   ∀ds A R,S ds A R RE->ds.length=n->∃m,dF (cU (bU P w) P w K mg base Nm x (aO st) f g B outer s H E) (ir st) (cK mg N m)/\m {nx:=λ_ A'=>R .aD A',rt:=R} (kI (Nm.length - n) ds) A):gx P w K mg base (bU P w) (k+1) u fd ps (aA mg n S):=by
 refine T.Uo Sc (λvs H Q E h=> ?_) λf g A outer s H vs Q E G h=> ?_
 .obtain⟨A,ι,ds,R,RE,hl,_,o,_⟩:=h
  rw[<-aj.length o,hl,F]
 .obtain⟨p,l,ds,R,RE,hl,ra,o,J,y,L⟩:=h
  have D:∀C a H',EL mg ⟨p,l,H⟩ RE C a H'->E C none H':=λC a H' z=>by
   obtain⟨c,A',ι',⟨b,rfl,hc⟩,ex,r,q⟩:=z
   exact L c A' ι' H' b q hc ex r
  obtain⟨m,M,O⟩:=j ⟨p,l,H⟩ RE f g A outer s H E G
   (λae σ H1 t e h' C args I U z=>Jx ae σ H1 t e h' C args I U (D _ _ _ z))
   (λae σ H1 t e s' I z=>IJ ae σ H1 t e s' I (by
    obtain⟨a,C,H',h1,h2,V⟩:=z
    exact⟨a,C,H',h1,h2,D _ _ _ V⟩)) ds p R J hl
  have W:=aj.length o
  refine⟨_,M,p,l,_,_,⟨ra,⟨?_,λi d q=> ?_⟩,ra.refl⟩,O,⟨λτ A' ι' σ H' q e r _=>y _ A' ι' H' _ q e r rfl,y,λ_ _ _ _ _ q _ _ _=>q.elim,λ_ _ _ _ _ q _ _ _=>q.elim⟩⟩
  .simp[kI,L2.start]
   omega
  .obtain⟨v,h1,h2⟩:=aj.get o (xx ds _ i d q)
   refine⟨v,?_,h2⟩
   have hi:=(bK.mp h1).1
   unfold L2.start
   rw[iG (by simpa using hi),bz,h1]
   rfl
def Ea:Ct:=λds A R _=>∃ns,ds=[.fl ns]/\∀A',R (.bl true) A'
def rA:Sp:=λvs H Q _=>∃(a:Addr) (o:Obj) (ns:Fn),vs=[.ref a]/\H a=some (.bW o (.lst (ns.map V.int)))/\∀H',Q (.bl true) H'
theorem Xu{mg:ay}{vs:Bn}{H:Hp}{Q:VK}{E:XK}(h:rA vs H Q E):aA mg 1 Ea vs H Q E:=by
 obtain⟨a,o,ns,rfl,h,q⟩:=h;refine⟨[],λ_=>a,[.fl ns],λv _=>v=.bl true,λ_ _=>False,rfl,⟨λr c h=>by simp at h,λr s b=>by simp at b⟩,⟨_,[],rfl,⟨a,o,rfl,h⟩,rfl⟩,⟨ns,rfl,λ_=>rfl⟩,λv A' ι' H' u e _ _ r=>?_,λ_ _ _ _ _ z=>z.elim⟩;subst e;cases r;exact q _
noncomputable def o6(o:Obj):Bool:=match o.cls with
 |.type t=> !(decide (t="list"))
 |_=>true
theorem T7{K:Frag}(h:K.all (λp=>o6 p.2)=true){a:Addr}{o:Obj}(e:K.lookup a=some o):o6 o=true:=by
 induction K with
 |nil=>cases e
 |cons p r b=>
  have h':o6 p.2=true/\List.all r (λp=>o6 p.2)=true:=by simpa using h
  rw[List.lookup] at e;split at e
  .cases e
   exact h'.1
  .exact b h'.2 e
theorem Qt{K:Frag}(b:K.all (λp=>o6 p.2)=true){H:Hp}{a:Addr}{ns:Fn}(d:vI H)(f:bf K H a (ns.map V.int)):rA [.ref a] H (λv _=>v=.bl true) λ_ _ _=>False:=by
 rcases f with (e|⟨o,e⟩)|⟨o,g,n,e,c,_⟩
 .rcases d a with z|⟨o,xs,z⟩
  .rw[z] at e;cases e
  .rw[z] at e;cases e
 .exact⟨a,o,ns,rfl,e,λ_=>rfl⟩
 .have:=T7 b e
  unfold o6 at this;rw[c] at this;simp at this
theorem pw_len:∀(ys e:Ap),ys.Pairwise strLt->(∀x∈ys,x∈e)->ys.length<=e.length
 |[],_,_,_=>b_ _
 |y::r,e,d,a=>by
  have p:=iC.mp d;have b:=a y (bw ..);have:=pw_len r (e.erase y) p.2 λx c=>(List.mem_erase_of_ne (uV (p.1 x c)).symm).mpr (a x (bq _ c));rw[List.length_erase_of_mem b] at this;have:=List.length_pos_of_mem b;simp;omega
def Eb:Ct:=λds A R _=>∃r xs,ds=[.ref r]/\A[r]?=some (.lst (xs.map fq))/\xs.length<=32/\(∀x∈xs,kT x)/\xs≠[]/\∀A' q,Gr A A'->A'[q]?=some (.lst ((lw xs).map D.int))->A.length<=q->R (.ref q) A'
structure Fb(kvs:List (Key×D))(ns:Ap)(s:Str->Rat):Prop where
 keys:kvs.map (·.1)=ns.map Sum.inr
 nd:ns.Nodup
 get:∀n∈ns,bA kvs (Sum.inr n)=some (fq (s n))
def Ec:Ct:=λds A R _=>∃(r:Nat) (kvs:List (Key×D)) (ns:Ap) (s:Str->Rat),ds=[.ref r]/\A[r]?=some (.dct kvs)/\Fb kvs ns s/\ns.length<=32/\ns≠[]/\(∀n∈ns,kT (s n))/\∀(A':Ar) (ys:Ap),Gr A A'->ys.Pairwise strLt->(∀x,x∈ys↔x∈ns)->R (dY (ys.zip (lw (ys.map s)))) A'
theorem Gz:∀(ps:List (Str×D)) (acc:List (Key×D)) (ns:Ap),acc.map (·.1)=ns.map Sum.inr->ns.Nodup->
  ∃d:Ap,((ps.map λp=>((Sum.inr p.1:Key),p.2)).foldl (λacc p=>cQ acc p.1 p.2) acc).map (·.1)=d.map Sum.inr/\d.Nodup/\(∀n,n∈d↔n∈ns\/n∈ps.map (·.1))
 |[],acc,ns,h1,h2=>⟨ns,h1,h2,λn=>θ⟩
 |p::ps,acc,ns,h1,h2=>by
  have key:∃f:Ap,(cQ acc (Sum.inr p.1) p.2).map (·.1)=f.map Sum.inr/\f.Nodup/\∀n,n∈f↔n∈ns\/n=p.1:=by
   by_cases j:(acc.any λc=>decide (c.1=(Sum.inr p.1:Key)))=true
   .have e:cQ acc (Sum.inr p.1) p.2=acc.map λc=>if c.1=(Sum.inr p.1:Key) then (c.1,p.2) else c:=by
     unfold cQ;rw[aB j]
    refine⟨ns,?_,h2,λn=>?_⟩
    .rw[e,br,<-h1]
     refine mL λc _=>?_;show(if c.1=(Sum.inr p.1:Key) then (c.1,p.2) else c).1=c.1;split<;>rfl
    .have g:p.1∈ns:=by
      obtain⟨c,i,m⟩:=jZ.mp j;have:c.1∈acc.map (·.1):=cZ i;rw[h1,fu m] at this;obtain⟨x,o,e⟩:=aP.mp this;rw[<-Sum.inr.inj e];exact o
     constructor
     .exact .inl
     .rintro (h|rfl)
      .exact h
      .exact g
   .have e:cQ acc (Sum.inr p.1) p.2=acc++[(Sum.inr p.1,p.2)]:=by
     unfold cQ;rw[av j]
    have k:p.1∉ns:=λg=>j (by
     have:(Sum.inr p.1:Key)∈acc.map (·.1):=by rw[h1];exact cZ g
     obtain⟨c,i,e⟩:=aP.mp this;exact jZ.mpr ⟨c,i,dg e⟩)
    refine⟨ns++[p.1],by rw[e];simp[h1],?_,λn=>θ⟩;rw[jX];refine⟨h2,θ,λa l b q=>?_⟩;rw[bS.mp q];exact λz=>k (by rw[<-z];exact l)
  obtain⟨f,u,v,w⟩:=key;obtain⟨d,r,s,t⟩:=Gz ps _ f u v;refine⟨d,r,s,λn=>?_⟩;rw[t,w];simp[or_assoc]
def nC(p:Str×Str×Rat):D:=.tup [.str p.2.1,fq p.2.2]
theorem Cf:∀rows:List (Str×Str×Rat),fR (rows.map nC)=some ((rows.map λp=>(p.2.1,fq p.2.2)).map λp=>((Sum.inr p.1:Key),p.2))
 |[]=>rfl
 |r::rows=>by
  have:=Cf rows;simp only[cM,nC,fR,f_,this]
theorem AB{A:Ar}{r:Nat}{xs:Bi}{ps:List (Key×D)}{R:DK}(h:A[r]?=some (.lst xs))(a:fR xs=some ps)(hl:ps.length<=1000)(k:R (.ref A.length) (A++[.dct (pK ps)])):wg r A R:=by
 unfold wg;simp only[h];unfold dctP;rw[a];exact⟨hl,k⟩
theorem LD{rs:List (Str×Int)}(b:(rs.map (·.1)).Nodup){r:Str×Int}(h:r∈rs):val rs r.1=r.2:=by
 unfold val;induction rs with
 |nil=>cases h
 |cons p rs c=>
  have a:=kJ.mp (show(p.1::rs.map (·.1)).Nodup from b);rcases bx.mp h with rfl|h
  .simp
  .have:¬p.1=r.1:=λz=>a.1 (by rw[z];exact cZ h)
   rw[List.find?_cons_of_neg (by simpa using this)];exact c a.2 h
theorem uO{xs:Ap}(h:xs.Pairwise strLt):xs.Nodup:=h.imp λz=>uV z
theorem PY(T:TopD K mg "least_whole" Ko yh)(k:aC P w K mg base 1 "greatest_divisor" uB (aA mg 2 zT)):aC P w K mg base 2 "least_whole" yh (aA mg 1 Eb):=by
 refine cg T W4 λO hR S F nd=>⟨_,(aF (dS 1 nd ao)
  (aF (d_ dP rfl (cz (vr 0)) (dG 2 nd) (aG (dS 1 nd (oA (eT (vr 1) (dX F (vr 2) ao)) (dL k O S (aa (vr 1) (aa (dX F (vr 2) ao) ah)))))))
  (aF (s_ none (own:=["fraction"]) (aw:=["bottom"]) (ix:=[1]) (i:=3) nd rfl (by first|exact Or.inl rfl|exact Or.inr rfl) rfl (cz (vr 0)) (λc=>(pG 0 (η:(["fraction","bottom"]:Ap).Nodup))) (λc=>(eT (dX F (vr 0) ao) (oA (vr 1) (dX F (vr 0) ao)))))
  (aF (dS 4 nd ao)
  (aF (d_ dP rfl (cz (vr 3)) (dG 5 nd) (aG (dS 4 nd (dL k O S (aa (vr 4) (aa (vr 5) ah))))))
  (aG (a_ (gQ none (own:=["number"]) (aw:=["divisor"]) (ix:=[4]) rfl (cz (vr 3)) (λc=>(pG 0 (η:(["number","divisor"]:Ap).Nodup))) (λc=>(oA (vr 0) (vr 1))))))))))),λds A R h hl=>?_⟩
 obtain⟨r,xs,rfl,H,l,ar,I,q⟩:=h;have hz:(1000:Nat)<=sizeLine:=δ
 have EH:(1152921504606846976:Int)<2 ^ 64:=δ
 obtain⟨b0,_,b3⟩:=om xs 1 δ;refine dB H ?_;refine dW (λrest τ A'=>∃(pre j:Fu) (x:Option D),rest=j.map fq/\τ=[some (.ref r),some (.int (bot pre 1)),x,none,none,none]/\pre++j=xs/\Gr A A') ?_ ?_ ?_ _ _ _ ⟨[],xs,none,rfl,rfl,rfl,Gr.refl⟩
 .rintro rest τ A' ⟨pre,j,x,_,_,_,g⟩
  exact g.get H
 .rintro v rest τ A' ⟨pre,j,x,e,rfl,o,g⟩ Nx J
  cases j with
  |nil=>cases e
  |cons y j=>
   cases e;have t:=ar y (by rw[<-o];simp);have G:=cj y;have U:=t.den;obtain⟨V,_,_⟩:=om pre 1 δ;have W:0<(Int.gcd (bot pre 1) (rf y).2:Int):=by
    have:=Int.gcd_pos_of_ne_zero_right (bot pre 1) (ω:(rf y).2≠0);omega
   have L:(Int.gcd (bot pre 1) (rf y).2:Int)<=(rf y).2:=le_of_dvd G (Int.gcd_dvd_right _ _);refine⟨.inr ⟨ω,ω⟩,rfl,_,⟨_,_,rfl,ω,ω,rfl⟩,λs h1=>⟨⟨W,BV W (K6 ω)⟩,?_⟩⟩;refine J _ _ ⟨pre++[y],j,some (fq y),rfl,?_,by simpa using o,g.trans h1⟩;rw[EY];rfl
 rintro τ s ⟨pre,j,x,e,rfl,o,L⟩;cases j with
 |cons p j=>cases e
 |nil=>
 have o:pre=xs:=by simpa using o
 subst o;have u:=L.get H;refine dB u ?_;refine ic (f:=λd=>match d with|.tup [.int a,.int b]=>.int (a*(bot pre 1/b))|d=>d) u _ _ (λd hd=>?_) (by simp;omega) ?_
 .obtain⟨y,hy,rfl⟩:=aP.mp hd
  have t:=ar y hy;have x1:=cV t.pos;have G:=cj y;have U:=t.den;have x4:=t.num;exact⟨[fq y],rfl,λQ M=>⟨⟨G,BV G (K6 U)⟩,.inl ⟨ω,ω⟩,M⟩⟩
 have eu:(pre.map fq).map (λd=>match d with|.tup [.int a,.int b]=>D.int (a*(bot pre 1/b))|d=>d)=(ups pre).map D.int:=by
  unfold ups;rw[br,br];rfl
 rw[fm,eu];have z:(ups pre).length=pre.length:=by simp[ups]
 have N:=aN (A:=s) (c:=C.lst ((ups pre).map D.int));have g2:Gr s (s++[C.lst ((ups pre).map D.int)]):=Gr.push;generalize Bq:s++[C.lst ((ups pre).map D.int)]=A2 at*
 refine dB N ?_;refine dW (λrest τ A'=>∃(m j:Fn) (y:Option D),rest=j.map D.int/\τ=[some (.ref r),some (.int (bot pre 1)),x,some (.ref s.length),some (.int (fj m 0)),y]/\m++j=ups pre/\Gr A2 A') ?_ ?_ ?_ _ _ _ ⟨[],ups pre,none,rfl,rfl,rfl,Gr.refl⟩
 .rintro rest τ A' ⟨m,j,y,_,_,_,g⟩
  exact g.get N
 .rintro v rest τ A' ⟨m,j,y,e,rfl,hd,g⟩ Nx J
  cases j with
  |nil=>cases e
  |cons n j=>
   cases e;obtain⟨X,_⟩:=LA ar l (show n∈ups pre by rw[<-hd];simp);obtain⟨V,_⟩:=tM m 0 (p7 0);refine⟨rfl,_,⟨_,_,rfl,V,ω,rfl⟩,λY h3=>?_⟩;refine J _ _ ⟨m++[n],j,some (.int n),rfl,?_,by simpa using hd,g.trans h3⟩;rw[GN];rfl
 rintro τ Y ⟨m,j,y,e,rfl,hd,Z⟩;cases j with
 |cons p j=>cases e
 |nil=>
 have hd:m=ups pre:=by simpa using hd
 subst hd;obtain⟨n0,B⟩:∃n,n∈ups pre:=by
  cases e:ups pre with
  |nil=>
   rw[e] at z;exact absurd (List.length_eq_zero_iff.mp z.symm) I
  |cons n r=>exact⟨n,θ⟩
 obtain⟨X,u1⟩:=LA ar l B;obtain⟨d0,d1⟩:=wI (p7 0) B X;have E:=Z.get N;refine dB E ?_;refine ic (f:=λd=>match d with|.int n=>.int (n/fj (ups pre) 0)|d=>d) E _ _ (λd hd=>?_) (by simp;omega) ?_
 .obtain⟨n,hn,rfl⟩:=aP.mp hd
  exact⟨[.int n],rfl,λQ M=>⟨⟨d0,BV d0 (fh d1 u1)⟩,M⟩⟩
 have el:((ups pre).map D.int).map (λd=>match d with|.int n=>D.int (n/fj (ups pre) 0)|d=>d)=(lw pre).map D.int:=by
  unfold lw;rw[br,br];rfl
 rw[fm,el];have gg:Gr A Y:=(L.trans g2).trans Z;exact q _ _ (gg.trans Gr.push) aN gg.len
theorem PZ(T:TopD K mg "least_weights" Kn yg)(b:mg "sorted"=none)(g:mg "tuple"=none)(i:mg "zip"=none)(a:aC P w K mg base 2 "least_whole" yh (aA mg 1 Eb)):aC P w K mg base 3 "least_weights" yg (aA mg 1 Ec):=by
 refine cg T W3 λE J k F nd=>⟨_,(aF (dS 1 nd (eW (M8 rfl) Og b boot_sorted (aa (vr 0) ah)))
  (aG (a_ (Ou g i rfl (aa (vr 1) (aa (dL a E k (aa (gQ none (own:=[κi]) (aw:=[κq]) (ix:=[0]) rfl (cz (vr 1)) (λc=>(pG 0 (η:([κi,κq]:Ap).Nodup))) (λc=>(dX F (vr 1) (vr 0)))) ah)) ah)))))),λds A R h hl=>?_⟩
 obtain⟨r,kvs,ns,j,rfl,v,o,y,s,ar,q⟩:=h;have O:(1000:Nat)<=sizeLine:=δ
 refine Xf v o.keys o.nd ω λys B l=>?_;have L:=pw_len ys ns B λx k=>(l x).mp k;refine dB aN ?_;refine ic (f:=λd=>match d with|.str n=>fq (j n)|d=>d) aN _ _ (λd hd=>?_) (by simp;omega) ?_
 .obtain⟨n,u,rfl⟩:=aP.mp hd
  exact⟨[.str n],rfl,λQ G=>gC (a4 v) rfl (o.get n ((l n).mp u)) G⟩
 have e:(ys.map D.str).map (λd=>match d with|.str n=>fq (j n)|d=>d)=(ys.map j).map fq:=by
  rw[br,br];rfl
 rw[fm,e];have m:ys≠[]:=λz=>by
  cases e:ns with
  |nil=>exact s e
  |cons n t=>
   have:=(l n).mpr (by rw[e];simp);rw[z] at this;cases this
 refine⟨rfl,_,ys.map j,rfl,aN,by simp;omega,λx k=>?_,by simpa using m,λM N C H _=>?_⟩
 .obtain⟨n,u,rfl⟩:=aP.mp k
  exact ar n ((l n).mp u)
 refine YE (C.get (a4 aN)) H ?_;have I:(((ys.map D.str).zip ((lw (ys.map j)).map D.int)).map λp=>D.tup [p.1,p.2])=(ys.zip (lw (ys.map j))).map aR:=by
  rw[List.zip_map,br];rfl
 rw[I];exact q _ ys (((Gr.push.trans Gr.push)).trans C) B l
abbrev Tb:=List (Str×Rat)
abbrev _root_.Bz:=List Tb
abbrev bC:=Nat×Str×Str
abbrev aU:=List (Str×List bC)
def cR(s:bC):D:=.tup [.int ((s.1:Nat):Int),.str s.2.1,.str s.2.2]
def af(T:Tb):Ap:=T.map (·.1)
def bh(T:Tb):List (Key×D):=T.map λp=>((Sum.inr p.1:Key),fq p.2)
noncomputable def aE(T:Tb)(n:Str):Rat:=match T.find? (λp=>decide (p.1=n)) with
 |some p=>p.2
 |none=>0
def iz(n:Str)(p:Tb×Nat):List bC:=if n∈af p.1 then (af p.1).map (λo=>(p.2,n,o)) else []
def ff(Ts:Bz)(n:Str):List bC:=Ts.zipIdx.flatMap (iz n)
def cX(P:aU)(n:Str):List bC:=match P.find? (λp=>decide (p.1=n)) with
 |some p=>p.2
 |none=>[]
def au(P:aU):Ap:=P.map (·.1)
def cP(P:aU)(s:bC):aU:=if s.2.2∈au P then P else P++[(s.2.2,cX P s.2.1++[s])]
def eS(Ts:Bz):Nat->Nat->aU->aU
 |0,_,P=>P
 |f+1,i,P=>match P[i]? with
  |some p=>eS Ts f (i+1) ((ff Ts p.1).foldl cP P)
  |none=>P
def aH(Ts:Bz)(n:Str):aU:=eS Ts 14 0 [(n,[])]
structure jm(T:Tb):Prop where
 nd:(af T).Nodup
 ne:T≠[]
 len:T.length<=32
 Qs:∀p∈T,zE p.2
structure dw(Ts:Bz)(NN:Ap):Prop where
 len:Ts.length<=7
 tok:∀T∈Ts,jm T
 nn:NN.length<=12
 sub:∀T∈Ts,∀n∈af T,n∈NN
theorem Bj:∀(T:Tb) (n:Str),bA (bh T) (Sum.inr n)=(T.find? (λp=>decide (p.1=n))).map (λp=>fq p.2)
 |[],n=>rfl
 |p::T,n=>by
  show(if (Sum.inr p.1:Key)=Sum.inr n then some (fq p.2) else bA (bh T) (Sum.inr n))=_;by_cases h:p.1=n
  .rw[aB (by rw[h]),List.find?_cons_of_pos (by simpa using h)]
   rfl
  .rw[av (λz=>h (Sum.inr.inj z)),List.find?_cons_of_neg (by simpa using h)]
   exact Bj T n
theorem find_some{β:Type}{T:List (Str×β)}{n:Str}:(T.find? (λp=>decide (p.1=n))).isSome=decide (n∈T.map (·.1)):=by
 rw[pS,List.find?_isSome,jj];constructor
 .rintro ⟨p,a,h⟩
  rw[<-fu h];exact cZ a
 .intro h
  obtain⟨p,a,e⟩:=aP.mp h;exact⟨p,a,dg e⟩
theorem qM(T:Tb)(n:Str):(bA (bh T) (Sum.inr n)).isSome=decide (n∈af T):=by
 rw[Bj,isSome_map];exact find_some
theorem lz{T:Tb}{n:Str}(h:n∈af T):bA (bh T) (Sum.inr n)=some (fq (aE T n)):=by
 have:=find_some (T:=T) (n:=n);rw[dg (show n∈T.map (·.1) from h)] at this;obtain⟨p,a⟩:=pQ.mp this;rw[Bj,a];unfold aE;rw[a];rfl
theorem ud(T:Tb):(bh T).map (·.1)=(af T).map Sum.inr:=by
 unfold bh af;rw[br,br];rfl
theorem HH(T:Tb):((bh T).map λp=>keyOf p.1)=(af T).map D.str:=by
 unfold bh af;rw[br,br];rfl
theorem mD{T:Tb}(h:jm T){n:Str}(b:n∈af T):zE (aE T n):=by
 have:=find_some (T:=T) (n:=n);rw[dg (show n∈T.map (·.1) from b)] at this;obtain⟨p,a⟩:=pQ.mp this;unfold aE;rw[a];exact h.Qs p (mO a)
theorem sH(P:aU)(s:bC):∀n,n∈au (cP P s)↔n∈au P\/n=s.2.2:=λn=>by
 unfold cP;split
 .rename_i h
  constructor
  .exact .inl
  .rintro (h'|rfl)
   .exact h'
   .exact h
 .simp[au]
theorem MD{P:aU}(s:bC)(h:(au P).Nodup):(au (cP P s)).Nodup:=by
 unfold cP;split
 .exact h
 .rename_i d
  unfold au;rw[c_,jX];refine⟨h,θ,λa e b c=>?_⟩;simp at c;rw[c];exact λz=>d (by rw[<-z];exact e)
theorem iu:∀(xs ys:Ap),xs.Nodup->(∀x∈xs,x∈ys)->xs.length<=ys.length:=by
 intro xs;induction xs with
 |nil=>intro ys _ _;exact b_ _
 |cons x r e=>
  intro ys f b;have a:=kJ.mp f;have c:=b x (bw ..);have:=e (ys.erase x) a.2 λy d=>(List.mem_erase_of_ne (λz=>a.1 (by rw[<-z];exact d))).mpr (b y (bq _ d));rw[List.length_erase_of_mem c] at this;have:=List.length_pos_of_mem c;simp;omega
theorem oX{Ts:Bz}{n:Str}{s:bC}:s∈ff Ts n↔∃T,Ts[s.1]?=some T/\n∈af T/\s.2.1=n/\s.2.2∈af T:=by
 unfold ff;rw[fG];constructor
 .rintro ⟨⟨T,i⟩,b,a⟩
  have b:=rG.mp b;unfold iz at a;split at a
  .rename_i c
   obtain⟨o,d,rfl⟩:=aP.mp a;exact⟨T,b,c,rfl,d⟩
  .cases a
 .rintro ⟨T,f,c,e,d⟩
  refine⟨(T,s.1),rG.mpr f,?_⟩;unfold iz;rw[aB c];exact aP.mpr ⟨s.2.2,d,by rw[<-e]⟩
theorem Ba:∀(a:List bC) (P:aU) (n:Str),n∈au (a.foldl cP P)↔n∈au P\/n∈a.map (·.2.2)
 |[],P,n=>by simp
 |s::a,P,n=>by
  rw[iF,Ba a,sH];simp[or_assoc]
theorem ME(P:aU)(s:bC):∃X,cP P s=P++X:=by
 unfold cP;split
 .exact⟨[],θ⟩
 .exact⟨_,rfl⟩
theorem wG:∀(b:List bC) (P:aU),∃X,b.foldl cP P=P++X
 |[],P=>⟨[],θ⟩
 |s::b,P=>by
  obtain⟨X,e⟩:=ME P s;obtain⟨Y,a⟩:=wG b (cP P s);exact⟨X++Y,by rw[iF,a,e,append_assoc]⟩
def TabAt(A:Ar)(t:Nat)(T:Tb):Prop:=A[t]?=some (.dct (bh T))\/∃o,A[t]?=some (.bI o (bh T))
def TabsAt(A:Ar):Dx->Bz->Prop
 |[],[]=>True
 |t::ts,T::Ts=>TabAt A t T/\TabsAt A ts Ts
 |_,_=>False
def iV(A:Ar)(r:Nat)(Ts:Bz):Prop:=∃ts,A[r]?=some (.lst (ts.map D.ref))/\TabsAt A ts Ts
theorem TabAt.gr{A B:Ar}{t:Nat}{T:Tb}(h:TabAt A t T)(g:Gr A B):TabAt B t T:=by
 rcases h with h|⟨o,h⟩
 .exact .inl (g.get h)
 .exact .inr ⟨o,g.get h⟩
theorem TabsAt.gr{A B:Ar}(g:Gr A B):∀{ts:Dx} {Ts:Bz},TabsAt A ts Ts->TabsAt B ts Ts
 |[],[],_=>trivial
 |t::ts,T::Ts,h=>⟨h.1.gr g,TabsAt.gr g h.2⟩
 |[],_::_,h=>h.elim
 |_::_,[],h=>h.elim
theorem TabsAt.len{A:Ar}:∀{ts:Dx} {Ts:Bz},TabsAt A ts Ts->ts.length=Ts.length
 |[],[],_=>rfl
 |t::ts,T::Ts,h=>by simp[TabsAt.len h.2]
 |[],_::_,h=>h.elim
 |_::_,[],h=>h.elim
theorem TabsAt.get{A:Ar}:∀{ts:Dx} {Ts:Bz} {i t:Nat},TabsAt A ts Ts->ts[i]?=some t->∃T,Ts[i]?=some T/\TabAt A t T
 |[],[],i,t,_,e=>by simp at e
 |t::ts,T::Ts,0,_,h,e=>by
  simp at e;subst e;exact⟨T,rfl,h.1⟩
 |t::ts,T::Ts,i+1,_,h,e=>by
  obtain⟨a,h1,h2⟩:=TabsAt.get (i:=i) h.2 (by simpa using e);exact⟨a,by simpa using h1,h2⟩
 |[],_::_,_,_,h,_=>h.elim
 |_::_,[],_,_,h,_=>h.elim
theorem iV.gr{A B:Ar}{r:Nat}{Ts:Bz}(h:iV A r Ts)(g:Gr A B):iV B r Ts:=by
 obtain⟨ts,h1,h2⟩:=h;exact⟨ts,g.get h1,h2.gr g⟩
theorem GC{τ:bL}{A:Ar}{j t:Nat}{ix:Dx}{te:aT}{R:DK}{T:Tb}(f:D->D)(g:lk τ j=some (.ref t))(l:TabAt A t T)(hl:T.length<=1000)
  (b:∀A':Ar,∀o∈af T,∀Q:DK,Q (f (.str o)) A'->te ([some (.str o)]++ix.map (lk τ)) A' Q)(k:R (.ref A.length) (A++[.lst ((af T).map λo=>f (.str o))])):Ff (jI none ix (tY (aX j)) mE te) τ A R:=by
 have v:(1000:Nat)<=sizeLine:=δ
 have c:(af T).length=T.length:=by simp[af]
 have em:((bh T).map λp=>keyOf p.1)=(af T).map D.str:=HH T;have go:∀(A':Ar) (o:Obj) (d:DK),A'[t]?=some (.bI o (bh T))->d (.ref A'.length) (A'++[.lst ((af T).map λo=>f (.str o))])->jI none ix (tY (aX j)) mE te τ A' d:=λA' o d h' m=>by
  unfold jI tY aX;rw[g];refine xm h' ?_;rw[em];refine ic (f:=f) h' _ _ (λx q=>?_) (by simp[c];omega) ?_
  .obtain⟨n,r,rfl⟩:=aP.mp q
   exact⟨[.str n],rfl,λQ s=>b A' n r Q s⟩
  .rw[fm,br]
   exact m
 rcases l with h|⟨o,h⟩
 .have a:=bQ h
  refine .inl ⟨t,bh T,h,λo=>go _ o _ (eG a) ⟨bh T,?_,?_⟩⟩
  .rw[iG (by simpa using a)]
   exact eG a
  .have e:(A.set t (.bI o (bh T))++[C.lst ((af T).map λo=>f (.str o))]).set t (.dct (bh T))=A++[.lst ((af T).map λo=>f (.str o))]:=by
    rw[zf _ _ (by simpa using a),set_set];congr 1;refine r9 λi=>?_;by_cases hi:i=t
    .rw[hi,eG a,h]
    .rw[eF (Ne.symm hi)]
   rw[e];have u:(A.set t (C.bI o (bh T))).length=A.length:=θ
   rw[u];exact k
 .exact .inr (go A o R h k)
def Eu:Ct:=λds A R _=>∃r n Ts,ds=[.ref r,.str n]/\iV A r Ts/\Ts.length<=7/\(∀T∈Ts,T.length<=32)/\∀A' q,Gr A A'->A'[q]?=some (.lst ((ff Ts n).map cR))->A.length<=q->R (.ref q) A'
theorem qE(ds:Bi):(i9 ds).length=ds.length:=by simp[i9]
theorem F7{ds:Bi}{i:Nat}{x:D}(h:ds[i]?=some x):(i9 ds)[i]?=some (.tup [.int ((i:Nat):Int),x]):=by
 unfold i9;rw[bz,Ds,h];simp
theorem LK{Ts:Bz}{i:Nat}{T:Tb}(h:Ts[i]?=some T):Ts.zipIdx.take (i+1)=Ts.zipIdx.take i++[(T,i)]:=by
 rw[rK,Ds,h];simp
theorem XC(n:Str)(p:Tb×Nat)(h:p.1.length<=32):(iz n p).length<=32:=by
 unfold iz;split
 .simp[af];exact h
 .simp
theorem Gu(n:Str):∀(l:List (Tb×Nat)),(∀p∈l,p.1.length<=32)->(l.flatMap (iz n)).length<=32*l.length
 |[],_=>by simp
 |p::l,h=>by
  have h1:=Gu n l λq a=>h q (bq _ a);have h2:=XC n p (h p (bw ..));rw[nU,eE,iA];omega
theorem Qj(T:TopD K mg "steps_from" KA yr)(a:mg "enumerate"=none):aC P w K mg base 1 "steps_from" yr (aA mg 2 Eu):=by
 refine cg T Xc λN O S C nd=>⟨_,(aF (dS 2 nd (dO ah))
  (aF (d_ dP rfl (FO a (aa (vr 0) ah)) (k8 rfl (fK (dG 3 nd) (fK (dG 4 nd) k9))) (aG (cG (Yk C (vr 1) (vr 4)) (aG (f7 (ig iD pZ rM uq sU (vr 2) (aa (wj (gQ none (own:=[κj]) (aw:=[κo,κi]) (ix:=[3,1]) rfl (s8 (vr 4)) (λc=>(pG 0 (η:([κj,κo,κi]:Ap).Nodup))) (λc=>(bP (aa (vr 1) (aa (vr 2) (aa (vr 0) ah))))))) ah)))) cJ)))
  (aG (a_ (vr 2))))),λds A R h hl=>?_⟩
 obtain⟨r,n,Ts,rfl,E,U,d,q⟩:=h;obtain⟨ts,h1,h2⟩:=E;have Y:(1000:Nat)<=sizeLine:=δ
 have l:=h2.len;have len:∀i,((Ts.zipIdx.take i).flatMap (iz n)).length<=224:=λi=>by
  have:=Gu n (Ts.zipIdx.take i) λp F=>by
   have:=rG.mp (vc F);exact d _ (cF this)
  rw[pT,zb] at this;omega
 refine⟨b_ _,BC (a4 h1) ?_⟩;refine dW (λrest τ A'=>∃(i:Nat) (x y:Option D),i<=ts.length/\rest=(i9 (ts.map D.ref)).drop i/\τ=[some (.ref r),some (.str n),some (.ref A.length),x,y]/\A'[A.length]?=some (.lst (((Ts.zipIdx.take i).flatMap (iz n)).map cR))/\Gr A A') ?_ ?_ ?_ _ _ _ ⟨0,none,none,b_ _,rfl,rfl,aN,Gr.push⟩
 .rintro rest τ A' ⟨i,x,y,_,_,_,_,g⟩
  exact g.get h1
 .rintro v rest τ G ⟨i,x,y,hi,e,rfl,hc,g⟩ V u
  by_cases f:i<ts.length
  .obtain⟨t,z⟩:∃t,ts[i]?=some t:=⟨ts[i],aS f⟩
   obtain⟨T,B,H⟩:=h2.get z;have j:=H.gr g;have b:i<(i9 (ts.map D.ref)).length:=by rw[qE,aM];exact f
   have X:=F7 (ds:=ts.map D.ref) (i:=i) (x:=.ref t) (by rw[bz,z];rfl);rw[mU b] at e;rw[aS b] at X;have X:=Option.some.inj X;rw[X] at e;cases e;have k:∀L,L=iz n (T,i)->((Ts.zipIdx.take (i+1)).flatMap (iz n))=((Ts.zipIdx.take i).flatMap (iz n))++L:=λL I=>by
    rw[LK B,qf,I];simp
   have ln:=len i;refine⟨rfl,Hs j rfl ?_⟩;rw[av cC,qM];refine cD (λc=>?_) (λc=>?_)
   .have m:iz n (T,i)=(af T).map (λo=>(i,n,o)):=by unfold iz;rw[aB c]
    have J:=d T (cF B);have s:(af T).length=T.length:=by simp[af]
    refine⟨gn hc,GC (λo=>.tup [.int ((i:Nat):Int),.str n,o]) rfl j ω (λA' o W Q M=>⟨(ω:3<=sizeLine),M⟩) ?_⟩;refine qI (a4 hc) aN (by rw[aM,aM,s];omega) ?_;have em:((af T).map λo=>D.tup [.int ((i:Nat):Int),.str n,.str o])=(iz n (T,i)).map cR:=by
     rw[m,br];rfl
    refine u _ _ ⟨i+1,_,_,ω,rfl,rfl,?_,(g.trans Gr.push).set (aJ _)⟩;rw[k _ rfl,c_,em];exact get_set (a4 hc)
   .have m:iz n (T,i)=[]:=by unfold iz;rw[av c]
    refine u _ _ ⟨i+1,_,_,ω,rfl,rfl,?_,g⟩;rw[k _ rfl,m,lN];exact hc
  .rw[rZ (by rw[qE,aM];omega)] at e
   cases e
 .rintro τ G ⟨i,x,y,hi,e,rfl,hc,g⟩
  have hi:i=ts.length:=by
   have:=bM List.length e;simp[qE] at this;omega
  rw[hi,l,vj (by rw[zb];exact aJ _)] at hc;exact q _ _ g hc (aJ _)
theorem HU{P X:aU}{n:Str}(h:n∈au P):cX (P++X) n=cX P n:=by
 have:=find_some (T:=P) (n:=n);rw[dg (show n∈P.map (·.1) from h)] at this;obtain⟨p,a⟩:=pQ.mp this;unfold cX;rw[find?_append,a];rfl
theorem SQ{P:aU}{n:Str}{l:List bC}(h:n∉au P):cX (P++[(n,l)]) n=l:=by
 have:=find_some (T:=P) (n:=n);rw[d8 (show ¬n∈P.map (·.1) from h)] at this;have e:P.find? (λp=>decide (p.1=n))=none:=by
  cases e:P.find? (λp=>decide (p.1=n)) with
  |none=>rfl
  |some p=>rw[e] at this;cases this
 unfold cX;rw[find?_append,e];simp
theorem jM{P:aU}{n:Str}(h:n∈au P):(n,cX P n)∈P:=by
 have:=find_some (T:=P) (n:=n);rw[dg (show n∈P.map (·.1) from h)] at this;obtain⟨p,a⟩:=pQ.mp this;have h1:=mO a;have h2:=r_ a;unfold cX;rw[a];have h2:p.1=n:=fu h2;rw[<-h2];exact h1
def n_(b:Nat)(A:Ar)(P:aU):Prop:=∃kvs,A[b+1]?=some (.dct kvs)/\A[b+2]?=some (.lst ((au P).map D.str))/\kvs.map (·.1)=(au P).map Sum.inr/\∀n∈au P,∃a,a≠b+2/\b<=a/\bA kvs (Sum.inr n)=some (.ref a)/\A[a]?=some (.lst ((cX P n).map cR))
structure gy(P:aU)(NN:Ap):Prop where
 nd:(au P).Nodup
 sub:∀n∈au P,n∈NN
 pl:∀p∈P,p.2.length+1<=P.length
theorem gy.len{P:aU}{NN:Ap}(h:gy P NN):P.length<=NN.length:=by
 have:=iu (au P) NN h.nd h.sub;simpa[au] using this
theorem gy.add{P:aU}{NN:Ap}(h:gy P NN){s:bC}(h1:s.2.1∈au P)(h2:s.2.2∈NN):gy (cP P s) NN:=by
 refine⟨MD s h.nd,λn a=>?_,λp hp=>?_⟩
 .rcases (sH P s n).mp a with h'|rfl
  .exact h.sub n h'
  .exact h2
 .unfold cP at hp ⊢
  split at hp
  .rename_i hc
   rw[aB hc];exact h.pl p hp
  .rename_i hc
   rw[av hc,eE];rcases bR.mp hp with hp|hp
   .have:=h.pl p hp
    simp;omega
   .rw[bS.mp hp]
    have:=h.pl _ (jM h1);simp at this ⊢;omega
def gZ(lo:Nat)(A:Ar)(q:Nat)(P:aU):Prop:=lo<=q/\∃kvs,A[q]?=some (.dct kvs)/\kvs.map (·.1)=(au P).map Sum.inr/\∀n∈au P,∃a,lo<=a/\bA kvs (Sum.inr n)=some (.ref a)/\A[a]?=some (.lst ((cX P n).map cR))
theorem gZ.gr{A B:Ar}{lo q:Nat}{P:aU}(h:gZ lo A q P)(g:Gr A B):gZ lo B q P:=by
 obtain⟨h0,kvs,h1,h2,b⟩:=h;exact⟨h0,kvs,g.get h1,h2,λn c=>by obtain⟨a,z,x,y⟩:=b n c;exact⟨a,z,x,g.get y⟩⟩
theorem gZ.set{A:Ar}{lo q t:Nat}{P:aU}{c:C}(h:gZ lo A q P)(g:t<lo):gZ lo (A.set t c) q P:=by
 obtain⟨h0,kvs,h1,h2,e⟩:=h;have b:∀(j:Nat) (d:C),lo<=j->A[j]?=some d->(A.set t c)[j]?=some d:=λj d i hd=>by
  rw[eF ω];exact hd
 exact⟨h0,kvs,b _ _ h0 h1,h2,λn f=>by obtain⟨a,z,x,y⟩:=e n f;exact⟨a,z,x,b _ _ z y⟩⟩
theorem gZ.lo{A:Ar}{lo b q:Nat}{P:aU}(h:gZ lo A q P)(hl:b<=lo):gZ b A q P:=by
 obtain⟨h0,kvs,h1,h2,c⟩:=h;exact⟨ω,kvs,h1,h2,λn d=>by obtain⟨a,z,x,y⟩:=c n d;exact⟨a,ω,x,y⟩⟩
theorem n_.gr{A B:Ar}{b:Nat}{P:aU}(h:n_ b A P)(g:Gr A B):n_ b B P:=by
 obtain⟨kvs,h1,h2,c,d⟩:=h;exact⟨kvs,g.get h1,g.get h2,c,λn e=>by obtain⟨a,z,f,x,y⟩:=d n e;exact⟨a,z,f,x,g.get y⟩⟩
theorem xq{kvs:List (Key×D)}{ns:Ap}{n:Str}(h:kvs.map (·.1)=ns.map Sum.inr):(bA kvs (Sum.inr n)).isSome=decide (n∈ns):=by
 induction kvs generalizing ns with
 |nil=>
  cases ns with
  |nil=>rfl
  |cons _ _=>cases h
 |cons p kvs a=>
  cases ns with
  |nil=>cases h
  |cons m ns=>
   rw[cM,cM,List.cons.injEq] at h;show(if p.1=Sum.inr n then some p.2 else bA kvs (Sum.inr n)).isSome=_;rw[h.1];by_cases e:m=n
   .rw[aB (by rw[e])]
    simp[e]
   .rw[av (λz=>e (Sum.inr.inj z)),a h.2]
    simp[Ne.symm e]
theorem sL{Ts:Bz}{f i:Nat}{P:aU}{p:Str×List bC}(h:P[i]?=some p):eS Ts (f+1) i P=eS Ts f (i+1) ((ff Ts p.1).foldl cP P):=by
 show(match P[i]? with|some p=>eS Ts f (i+1) ((ff Ts p.1).foldl cP P)|none=>P)=_;rw[h]
theorem MT{Ts:Bz}{f i:Nat}{P:aU}(h:P.length<=i):eS Ts f i P=P:=by
 cases f with
 |zero=>rfl
 |succ f=>
  show(match P[i]? with|some p=>eS Ts f (i+1) ((ff Ts p.1).foldl cP P)|none=>P)=_;rw[nX h]
def zZ:Ct:=λds A R _=>∃r n Ts NN,ds=[.ref r,.str n]/\iV A r Ts/\dw Ts NN/\n∈NN/\∀A' q,Gr A A'->gZ A.length A' q (aH Ts n)->R (.ref q) A'
theorem gJ{A:Ar}{i j:Nat}{c d:C}(a:i≠j)(h:A[j]?=some d):(A.set i c)[j]?=some d:=by
 rw[eF a];exact h
theorem uR{A:Ar}{i:Nat}{c d:C}(h:A[i]?=some d):(A.set i c)[i]?=some c:=eG (bQ h)
theorem Ss{kvs:List (Key×D)}{ns:Ap}{n:Str}{v:D}(h:kvs.map (·.1)=ns.map Sum.inr)(a:n∉ns):(cQ kvs (Sum.inr n) v).map (·.1)=(ns++[n]).map Sum.inr:=by
 rw[Ja (λp b z=>?_)]
 .simp[h]
 .have:p.1∈kvs.map (·.1):=cZ b
  rw[h,z] at this;obtain⟨m,c,e⟩:=aP.mp this;rw[<-Sum.inr.inj e] at a;exact a c
theorem P9(T:TopD K mg "paths_from" Kq yj)(B:mg "len"=none)(d:aC P w K mg base 1 "steps_from" yr (aA mg 2 Eu)):aC P w K mg base 2 "paths_from" yj (aA mg 2 zZ):=by
 refine cg T W6 λhr hR hx u nd=>⟨_,(aF (dS 2 nd (Fy (vr 1) (dO ah)))
  (aF (dS 3 nd (dO (aa (vr 1) ah)))
  (aF (dS 4 nd ao)
  (aF (AM dP (C0 (vr 4) (eW ia a3 B iE (aa (vr 3) ah))) (aF (d_ dP rfl (cz (dL d hr hx (aa (vr 0) (aa (dX u (vr 3) (vr 4)) ah)))) (dG 5 nd) (aG (cG (uX u (dX u (vr 5) ao) (vr 2)) (aF (wz u (vr 2) (dX u (vr 5) ao) (fC (dX u (vr 2) (dX u (vr 5) ao)) (dO (aa (vr 5) ah))) rfl)
  (aG (f7 (ig iD rO rX oY qB (vr 3) (aa (dX u (vr 5) ao) ah))))) cJ)))
  (aG (OL (i:=4) nd rfl (by first|exact Or.inl rfl|exact Or.inr rfl) ao))))
  (aG (a_ (vr 2))))))),λds A R h hl=>?_⟩
 obtain⟨r,n,Ts,NN,rfl,hB,ar,hn,q⟩:=h;have hz:(1000:Nat)<=sizeLine:=δ
 have e1:(A++[C.lst []]).length=A.length+1:=θ
 have e2:(A++[C.lst []]++[C.dct [(Sum.inr n,D.ref A.length)]]).length=A.length+2:=θ
 refine⟨b_ _,(ω:1<=sizeLine),?_⟩;have tQ:n_ A.length (A++[C.lst []]++[C.dct [(Sum.inr n,D.ref A.length)]]++[C.lst [D.str n]]) [(n,[])]:=by
  refine⟨[(Sum.inr n,D.ref A.length)],?_,?_,rfl,λm hm=>⟨A.length,ω,aJ _,?_,?_⟩⟩
  .rw[<-e1];exact a4 aN
  .rw[<-e2];exact aN
  .have:m=n:=by simpa[au] using hm
   subst this;exact aB rfl
  .have:m=n:=by simpa[au] using hm
   subst this;have e:cX [(m,[])] m=[]:=by simp[cX]
   rw[e];exact a4 (a4 aN)
 refine⟨λk τ A'=>∃(i:Nat) (Q:aU) (x:Option D),k=13 - i/\τ=[some (.ref r),some (.str n),some (.ref (A++[C.lst []]).length),some (.ref (A++[C.lst []]++[C.dct [(Sum.inr n,D.ref A.length)]]).length),some (.int ((i:Nat):Int)),x]/\i<=Q.length/\n_ A.length A' Q/\gy Q NN/\eS Ts (14 - i) i Q=aH Ts n/\Gr A A',⟨13,0,[(n,[])],none,rfl,rfl,θ,tQ,⟨by simp[au],λm hm=>by
   have:m=n:=by simpa[au] using hm
   rw[this];exact hn,λp L=>by
   have:p=(n,[]):=by simpa using L
   rw[this];simp⟩,rfl,((Gr.push.trans Gr.push).trans Gr.push)⟩,?_⟩
 rw[e1,e2];rintro k τ A1 ⟨i,Q,x,rfl,rfl,hi,hS,hP,hb,Z⟩;have xr:Q.length<=12:=d7 hP.len ar.nn;obtain⟨M,hd0,E,hk0,hv0⟩:=id hS;refine oV E ?_;have N:((au Q).map D.str).length=Q.length:=by simp[au]
 refine cD (λc=>?_) (λc=>?_)
 .rw[N] at c
  have c:i<Q.length:=ω
  obtain⟨p,L⟩:∃p,Q[i]?=some p:=⟨Q[i],aS c⟩;have Rn:p.1∈au Q:=cZ (cF L);refine⟨λτ A'=>∃(H:aU) (x:Option D),τ=[some (.ref r),some (.str n),some (.ref (A.length+1)),some (.ref (A.length+2)),some (.int ((i+1:Nat):Int)),x]/\i+1<=H.length/\n_ A.length A' H/\gy H NN/\eS Ts (14 - (i+1)) (i+1) H=aH Ts n/\Gr A A',λbT A' ⟨H,x,h1,h2,O,h4,h5,h6⟩=>⟨13 - (i+1),ω,i+1,H,x,rfl,h1,h2,O,h4,h5,h6⟩,?_⟩;refine iN E (v:=.str p.1) (oj (by rw[bz];unfold au;rw[bz,L];rfl)) ?_;refine⟨rfl,r,p.1,Ts,rfl,hB.gr Z,ar.len,λT hT=>(ar.tok T hT).len,λA2 q2 g2 h2 l2=>?_⟩;have gl:=Z.len;have lr:=bQ E;refine dB h2 ?_;refine dW (λrest τ A'=>∃(l b:List bC) (x:Option D),rest=b.map cR/\l++b=ff Ts p.1/\τ=[some (.ref r),some (.str n),some (.ref (A.length+1)),some (.ref (A.length+2)),some (.int ((i:Nat):Int)),x]/\n_ A.length A' (l.foldl cP Q)/\gy (l.foldl cP Q) NN/\A'[q2]?=some (.lst ((ff Ts p.1).map cR))/\Gr A A') ?_ ?_ ?_ _ _ _ ⟨[],ff Ts p.1,x,rfl,rfl,rfl,hS.gr g2,hP,h2,Z.trans g2⟩
  .rintro rest τ A' ⟨l,b,x,_,_,_,_,_,h,_⟩
   exact h
  .rintro v rest τ S ⟨l,b,x,e,g,rfl,t,j,O,g3⟩ Nx hN
   cases b with
   |nil=>cases e
   |cons st b=>
   cases e;have hst:st∈ff Ts p.1:=by rw[<-g];simp
   obtain⟨T,hT,hn1,hn2,Rh⟩:=oX.mp hst;obtain⟨kvs,hd,U,hk,hv⟩:=id t;have f:(l++[st]).foldl cP Q=cP (l.foldl cP Q) st:=by rw[nV];rfl
   generalize QY:l.foldl cP Q=o at*
   have F:st.2.1∈au o:=by
    rw[<-QY,Ba,hn2];exact .inl Rn
   have Wr:st.2.2∈NN:=ar.sub T (cF hT) _ Rh;have l3:o.length<=12:=d7 j.len ar.nn;refine oQ hd rfl ?_;rw[aB rfl,xq hk];refine cN (λI=>?_) (λI=>?_)
   .obtain⟨a1,na,ZT,ga,ha⟩:=hv _ F
    refine gC hd rfl ga ?_;have hpl:=j.pl _ (jM F);simp at hpl;refine⟨(ω:1<=sizeLine),ow (a4 ha) aN (by simp;omega) ?_⟩;have ZJ:kvs.length=o.length:=by
     have:=bM List.length hk;simpa[au] using this
    refine yz (a4 (a4 hd)) rfl ω ?_;have V:=a4 (T:=[C.lst ((cX o st.2.1).map cR++[cR st])]) (a4 (T:=[C.lst [cR st]]) U);have hd2:=a4 (T:=[C.lst ((cX o st.2.1).map cR++[cR st])]) (a4 (T:=[C.lst [cR st]]) hd);have s:=gJ (i:=A.length+1) (c:=C.dct (cQ kvs (Sum.inr st.2.2) (D.ref (S++[C.lst [cR st]]).length))) ω V;refine⟨gn s,qv s (by simp[au];omega) ?_⟩;have ZX:A1.length<=q2:=l2;have nq:A.length+2≠q2:=ω
    have Ub:A.length+1≠q2:=ω
    have J:cP o st=o++[(st.2.2,cX o st.2.1++[st])]:=by unfold cP;rw[av I]
    have ek:au (cP o st)=au o++[st.2.2]:=by rw[J];simp[au]
    refine hN _ _ ⟨l++[st],b,_,rfl,by simpa using g,rfl,?_,?_,?_,?_⟩
    .rw[f]
     refine⟨_,gJ ω (uR hd2),?_,?_,λm hm=>?_⟩
     .rw[ek,c_]
      exact uR s
     .rw[ek]
      exact Ss hk I
     .rw[ek] at hm
      have la:(S++[C.lst [cR st]]).length=S.length+1:=θ
      have S7:=bQ U;rcases bR.mp hm with hm|hm
      .obtain⟨a,W,Y,Qz,G⟩:=hv m hm
       have hne:¬(Sum.inr st.2.2:Key)=Sum.inr m:=λz=>I (by rw[Sum.inr.inj z];exact hm);refine⟨a,W,Y,by rw[wK,av hne];exact Qz,?_⟩;rw[J,HU hm];have hd':A.length+1≠a:=λz=>by rw[<-z,hd] at G;cases G
       exact gJ (Ne.symm W) (gJ hd' (a4 (a4 G)))
      .have hm:m=st.2.2:=by simpa using hm
       subst hm;refine⟨(S++[C.lst [cR st]]).length,ω,ω,by rw[wK,aB rfl],?_⟩;rw[J,SQ I,c_];exact gJ ω (gJ ω aN)
    .rw[f]
     exact j.add F Wr
    .exact gJ nq (gJ Ub (a4 (a4 O)))
    .exact((((g3.trans Gr.push).trans Gr.push).set ω).set ω)
   .have J:cP o st=o:=by unfold cP;rw[aB I]
    refine hN _ _ ⟨l++[st],b,_,rfl,by simpa using g,rfl,?_,?_,O,g3⟩
    .rw[f,J];exact t
    .rw[f,J];exact j
  .rintro τ S ⟨l,b,x,e,g,rfl,t,j,O,g3⟩
   cases b with
   |cons _ _=>cases e
   |nil=>
   have g:l=ff Ts p.1:=by simpa using g
   subst g;refine⟨_,x,by rfl,?_,t,j,?_,g3⟩
   .obtain⟨X,e⟩:=wG (ff Ts p.1) Q
    rw[e,eE];omega
   .rw[<-hb,(ω:14 - i=(14 - (i+1))+1),sL L]
 .rw[N] at c
  have c:Q.length<=i:=ω
  rw[MT c] at hb;rw[<-hb] at q;refine q A1 _ Z ⟨ω,M,hd0,hk0,λm hm=>?_⟩;obtain⟨a,_,z,x,y⟩:=hv0 m hm;exact⟨a,z,x,y⟩
theorem Gb{A:Ar}{p:Nat}{xs:Bi}{R:DK}(h:A[p]?=some (.lst xs))(c:gb xs=true)(hl:canLayAll0 (bF xs)=true)(k:R (.bl (decide (xs=[]))) (A++[.lst []])):f6 false (.ref p) (.ref A.length) (A++[.lst []]) R:=by
 unfold f6;have b:cW (A++[.lst []]) (.ref p)=.list (bF xs):=by unfold cW;simp only[a4 h]
 have a:cW (A++[.lst []]) (.ref A.length)=.list []:=by unfold cW;simp only[aN];rfl
 refine⟨?_,?_,?_,?_,?_,?_⟩
 .unfold ju;simp only[a4 h];exact c
 .unfold ju;simp only[aN];rfl
 .rw[b];simpa[canLay0] using hl
 .rw[a];simp[canLay0,canLayAll0]
 .rw[a];simp[PyData.depth,depthAll];omega
 .rw[b,a]
  have e:PyData.eqv (.list (bF xs)) (.list [])=decide (xs=[]):=by cases xs<;>simp[bF,PyData.eqv,eqvAll]
  rw[av δ,e];exact k
theorem QH{A a:Ar}{r:Nat}{o:Obj}{kvs:List (Key×D)}(h:A[r]?=some (.dct kvs))(g:Gr (A.set r (.bI o kvs)) a):a[r]?=some (.bI o kvs)/\Gr A (a.set r (.dct kvs)):=by
 obtain⟨T,rfl⟩:=g;have hl:=(bK.mp h).1;refine⟨by rw[iG (by simpa using hl),eG hl],T,?_⟩;rw[zf _ _ (by simpa using hl),set_set];congr 1;apply r9;intro i;by_cases e:i=r
 .subst e;rw[eG hl,h]
 .rw[eF (Ne.symm e)]
theorem I_:∀(ps acc:List (Key×D)),((acc++ps).map (·.1)).Nodup->ps.foldl (λacc p=>cQ acc p.1 p.2) acc=acc++ps
 |[],acc,_=>by simp
 |p::ps,acc,h=>by
  rw[iF];have c:(acc.any λa=>decide (a.1=p.1))=false:=by
   rw[List.any_eq_false];intro a b z;rw[c_] at h;exact(jX.mp h).2.2 a.1 (cZ b) p.1 θ (fu z)
  have e:cQ acc p.1 p.2=acc++[p]:=by
   unfold cQ;rw[c];rfl
  rw[e,I_ ps (acc++[p]) (by simpa using h)];simp
theorem GO(g:Str->D):∀(ns:Ap) (n:Str),n∈ns->bA (ns.map λn=>((Sum.inr n:Key),g n)) (Sum.inr n)=some (g n)
 |[],n,h=>by cases h
 |x::ns,n,h=>by
  show(if (Sum.inr x:Key)=Sum.inr n then some (g x) else bA _ _)=_;by_cases e:x=n
  .rw[aB (by rw[e]),e]
  .rw[av (λz=>e (Sum.inr.inj z))]
   rcases bx.mp h with z|z
   .exact absurd z.symm e
   .exact GO g ns n z
def iy(g:Str->Rat)(n:Str):D:=.tup [.str n,fq (g n)]
theorem IG(g:Str->Rat):∀ns:Ap,fR (ns.map (iy g))=some (ns.map λn=>((Sum.inr n:Key),fq (g n)))
 |[]=>rfl
 |n::ns=>by
  have:=IG g ns;simp[iy,fR,this,f_]
def fk(Gs:List aU):Ap:=Gs.flatMap au
def dz(Ts:Bz)(Gs:List aU)(n:Str):List aU:=if n∈fk Gs then Gs else Gs++[aH Ts n]
def bg(Ts:Bz):List aU:=(Ts.flatMap af).foldl (dz Ts) []
def fM(lo:Nat)(A:Ar):Dx->List aU->Prop
 |[],[]=>True
 |q::qs,P::Ps=>gZ lo A q P/\fM lo A qs Ps
 |_,_=>False
theorem fM.kE{lo a:Nat}{A B:Ar}(f:∀q P,gZ lo A q P->gZ a B q P):∀{b:Dx} {Ps:List aU},fM lo A b Ps->fM a B b Ps
 |[],[],_=>trivial
 |q::b,P::Ps,h=>⟨f q P h.1,fM.kE f h.2⟩
 |[],_::_,h=>h.elim
 |_::_,[],h=>h.elim
theorem fM.snoc{lo:Nat}{A:Ar}{q:Nat}{P:aU}(a:gZ lo A q P):∀{b:Dx} {Ps:List aU},fM lo A b Ps->fM lo A (b++[q]) (Ps++[P])
 |[],[],_=>⟨a,trivial⟩
 |_::b,_::Ps,h=>⟨h.1,fM.snoc a h.2⟩
 |[],_::_,h=>h.elim
 |_::_,[],h=>h.elim
theorem fM.len{lo:Nat}{A:Ar}:∀{qs:Dx} {Ps:List aU},fM lo A qs Ps->qs.length=Ps.length
 |[],[],_=>rfl
 |q::qs,P::Ps,h=>by simp[fM.len h.2]
 |[],_::_,h=>h.elim
 |_::_,[],h=>h.elim
def Mt(lo:Nat)(A:Ar)(q:Nat)(Gs:List aU):Prop:=lo<=q/\∃gs,A[q]?=some (.lst (gs.map D.ref))/\fM lo A gs Gs
def mW(b:Nat)(NN:Ap)(A:Ar)(Gs:List aU):Prop:=∃(gs:Dx) (kvs:List (Key×D)) (ns:Ap),A[b]?=some (.lst (gs.map D.ref))/\fM (b+2) A gs Gs/\A[b+1]?=some (.dct kvs)/\kvs.map (·.1)=ns.map Sum.inr/\ns.Nodup/\(∀n,n∈ns↔n∈fk Gs)/\∀n∈ns,n∈NN
theorem mW.set{b t:Nat}{NN:Ap}{A:Ar}{Gs:List aU}{c:C}(h:mW b NN A Gs)(e:t<b):mW b NN (A.set t c) Gs:=by
 obtain⟨gs,kvs,ns,h1,h2,a,d⟩:=h;exact⟨gs,kvs,ns,gJ ω h1,h2.kE λq P z=>z.set ω,gJ ω a,d⟩
theorem Sy{kvs:List (Key×D)}{ns:Ap}(h:kvs.map (·.1)=ns.map Sum.inr):∃ps:List (Str×D),kvs=ps.map (λp=>((Sum.inr p.1:Key),p.2))/\ps.map (·.1)=ns:=by
 induction kvs generalizing ns with
 |nil=>
  cases ns with
  |nil=>exact⟨[],rfl,rfl⟩
  |cons _ _=>cases h
 |cons p kvs a=>
  cases ns with
  |nil=>cases h
  |cons m ns=>
   rw[cM,cM,List.cons.injEq] at h;obtain⟨ps,b,c⟩:=a h.2;exact⟨(m,p.2)::ps,by rw[cM,<-b,<-h.1],by rw[cM,c]⟩
theorem Ie{kvs b:List (Key×D)}{ns ms:Ap}(h1:kvs.map (·.1)=ns.map Sum.inr)(h2:b.map (·.1)=ms.map Sum.inr)(c:ns.Nodup):∃a:Ap,(lG kvs b).map (·.1)=a.map Sum.inr/\a.Nodup/\∀n,n∈a↔n∈ns\/n∈ms:=by
 obtain⟨ps,d,e⟩:=Sy h2;obtain⟨a,f,g,h⟩:=Gz ps kvs ns h1 c;refine⟨a,?_,g,λn=>by rw[h,e]⟩;unfold lG;rw[d];exact f
theorem EN{Ts:Bz}{NN:Ap}(ar:dw Ts NN):∀(f i:Nat) (P:aU),gy P NN->gy (eS Ts f i P) NN/\∃X,eS Ts f i P=P++X
 |0,i,P,h=>⟨h,[],by simp[eS]⟩
 |f+1,i,P,h=>by
  cases e:P[i]? with
  |none=>
   have:eS Ts (f+1) i P=P:=by
    show(match P[i]? with|some p=>eS Ts f (i+1) ((ff Ts p.1).foldl cP P)|none=>P)=_;rw[e]
   rw[this];exact⟨h,[],θ⟩
  |some p=>
   rw[sL e];have key:∀(n:List bC) (Q:aU),(∀s∈n,s∈ff Ts p.1)->gy Q NN->p.1∈au Q->gy (n.foldl cP Q) NN:=by
    intro n;induction n with
    |nil=>intro Q _ h _;exact h
    |cons s n c=>
     intro Q b d a;obtain⟨T,g,_,j,k⟩:=oX.mp (b s (bw ..));refine c _ (λx l=>b x (bq _ l)) (d.add (by rw[j];exact a) (ar.sub T (cF g) _ k)) ?_;exact(sH Q s p.1).mpr (.inl a)
   have a:p.1∈au P:=cZ (cF e);obtain⟨h1,X,h2⟩:=EN ar f (i+1) _ (key (ff Ts p.1) P (λs h=>h) h a);obtain⟨Y,m⟩:=wG (ff Ts p.1) P;exact⟨h1,Y++X,by rw[h2,m,append_assoc]⟩
theorem iw{Ts:Bz}{NN:Ap}(ar:dw Ts NN){n:Str}(a:n∈NN):gy (aH Ts n) NN/\n∈au (aH Ts n)/\cX (aH Ts n) n=[]:=by
 have h0:gy [(n,[])] NN:=⟨by simp[au],λm b=>by
  have:m=n:=by simpa[au] using b
  rw[this];exact a,λp c=>by
  have:p=(n,[]):=by simpa using c
  rw[this];simp⟩
 obtain⟨h1,X,h2⟩:=EN ar 14 0 _ h0;have d:n∈au [(n,([]:List bC))]:=by simp[au]
 refine⟨h1,?_,?_⟩
 .show n∈au (eS Ts 14 0 [(n,[])])
  rw[h2];simp[au]
 .show cX (eS Ts 14 0 [(n,[])]) n=[]
  rw[h2,HU d];simp[cX]
theorem QI{Ts:Bz}{NN:Ap}(ar:dw Ts NN){Gs:List aU}{n:Str}(a:n∈NN):n∈fk (dz Ts Gs n)/\∀m∈fk Gs,m∈fk (dz Ts Gs n):=by
 unfold dz;split
 .rename_i h
  exact⟨h,λ_ h=>h⟩
 .unfold fk
  rw[qf];refine⟨jx _ ?_,λm b=>nH _ b⟩;simp;exact(iw ar a).2.1
theorem GQ{Ts:Bz}{NN:Ap}(ar:dw Ts NN):∀(ns:Ap) (Gs:List aU),(∀n∈ns,n∈NN)->(∀n∈ns,n∈fk (ns.foldl (dz Ts) Gs))/\∀m∈fk Gs,m∈fk (ns.foldl (dz Ts) Gs)
 |[],Gs,_=>⟨(λ_ h=>by cases h),λ_ h=>h⟩
 |n::ns,Gs,h=>by
  obtain⟨c,d⟩:=QI ar (Gs:=Gs) (h n (bw ..));obtain⟨b,a⟩:=GQ ar ns (dz Ts Gs n) λm hm=>h m (bq _ hm);refine⟨λm hm=>?_,λm hm=>a m (d m hm)⟩;rcases bx.mp hm with rfl|hm
  .exact a _ c
  .exact b m hm
theorem tO{Ts:Bz}{NN:Ap}(ar:dw Ts NN){T:Tb}(a:T∈Ts){n:Str}(b:n∈af T):n∈fk (bg Ts):=by
 refine(GQ ar (Ts.flatMap af) [] λm c=>?_).1 n (fG.mpr ⟨T,a,b⟩);obtain⟨d,h1,h2⟩:=fG.mp c;exact ar.sub d h1 m h2
theorem Bo(Ts:Bz):∀(ns:Ap) (a:List aU),(ns.foldl (dz Ts) a).length<=a.length+ns.length
 |[],a=>aJ _
 |n::ns,a=>by
  have h:=Bo Ts ns (dz Ts a n);have h2:(dz Ts a n).length<=a.length+1:=by
   unfold dz;split
   .omega
   .simp
  rw[iF,iA];omega
theorem Ii:∀(Ts:Bz),(∀T∈Ts,T.length<=32)->(Ts.flatMap af).length<=32*Ts.length
 |[],_=>by simp
 |T::Ts,h=>by
  have h1:=Ii Ts λq a=>h q (bq _ a);have h2:=h T (bw ..);have e:(af T).length=T.length:=by simp[af]
  rw[nU,eE,iA];omega
def vK:Ct:=λds A R _=>∃r Ts NN,ds=[.ref r]/\iV A r Ts/\dw Ts NN/\∀A' q,Gr A A'->Mt A.length A' q (bg Ts)->R (.ref q) A'
theorem TabsAt.fz{A:Ar}{t:Nat}{o:Obj}{T0:Tb}(h0:A[t]?=some (.dct (bh T0))):∀{ts:Dx} {Ts:Bz},TabsAt A ts Ts->TabsAt (A.set t (.bI o (bh T0))) ts Ts
 |[],[],_=>trivial
 |q::b,T::Ts,h=>by
  refine⟨?_,TabsAt.fz h0 h.2⟩;by_cases e:t=q
  .subst e
   rcases h.1 with h'|⟨o',h'⟩
   .rw[h0] at h'
    have a:bh T0=bh T:=by
     have h':=Option.some.inj h';injection h'
    exact .inr ⟨o,by rw[eG (bQ h0),a]⟩
   .rw[h0] at h'
    cases h'
  .rcases h.1 with h'|⟨o',h'⟩
   .exact .inl (gJ e h')
   .exact .inr ⟨o',gJ e h'⟩
 |[],_::_,h=>h.elim
 |_::_,[],h=>h.elim
theorem PC(T:TopD K mg "groups" Ke qW)(b:aC P w K mg base 2 "paths_from" yj (aA mg 2 zZ)):aC P w K mg base 3 "groups" qW (aA mg 1 vK):=by
 refine lu T KJ rfl δ λN RE f cdv B outer s H E hr hR hx ds A R h hl=>?_;have hu:=hr.units;have nd:=KJ.nd;refine⟨_,(aF (dS 1 nd (dO ah))
  (aF (dS 2 nd wh)
  (aF (d_ dP rfl (cz (vr 0)) (dG 3 nd) (aG (OM (d_ dP rfl (s8 (vr 3)) (dG 4 nd) (aG (cG (uX hu (vr 4) (vr 2)) (aF (dS 5 nd (dL b hr hx (aa (vr 0) (aa (vr 4) ah))))
  (aF (f7 (AF zd slot_dict_update PySem.F.type_dict_update Ig Ft (vr 2) (aa (vr 5) ah)))
  (aG (f7 (ig iD rO rX oY qB (vr 1) (aa (vr 5) ah)))))) cJ))))))
  (aG (a_ (vr 1)))))),?_⟩
 obtain⟨r,Ts,NN,rfl,hB,ar,q⟩:=h;obtain⟨ts,h1,h2⟩:=id hB;have hz:(1000:Nat)<=sizeLine:=δ
 have e1:(A++[C.lst []]).length=A.length+1:=θ
 have g0:Gr A (A++[C.lst []]++[C.dct []]):=Gr.push.trans Gr.push;refine⟨b_ _,dB (g0.get h1) ?_⟩;rw[e1];have tQ:mW A.length NN (A++[C.lst []]++[C.dct []]) []:=⟨[],[],[],a4 aN,trivial,by rw[<-e1];exact aN,rfl,pX,λn=>by simp[fk],λn h=>by cases h⟩;refine dW (λrest τ A'=>∃(i:Nat) (x y z:Option D),i<=ts.length/\rest=(ts.map D.ref).drop i/\τ=[some (.ref r),some (.ref A.length),some (.ref (A.length+1)),x,y,z]/\mW A.length NN A' (((Ts.take i).flatMap af).foldl (dz Ts) [])/\Gr A A') ?_ ?_ ?_ _ _ _ ⟨0,none,none,none,b_ _,rfl,rfl,tQ,g0⟩
 .rintro rest τ A' ⟨i,x,y,z,_,_,_,_,g⟩
  exact g.get h1
 .rintro v rest τ A1 ⟨i,x,y,z,hi,e,rfl,W,g⟩ Nx hN
  by_cases hlt:i<ts.length
  .obtain⟨t,ht⟩:∃t,ts[i]?=some t:=⟨ts[i],aS hlt⟩
   obtain⟨T0,hT,hA⟩:=h2.get ht;have Bp:=hA.gr g;have L:i<(ts.map D.ref).length:=by rw[aM];exact hlt
   have ev:(ts.map D.ref)[i]?=some (.ref t):=by rw[bz,ht];rfl
   rw[mU L] at e;rw[aS L] at ev;have ev:=Option.some.inj ev;rw[ev] at e;cases e;have Ho:T0∈Ts:=cF hT;have tl:t<A.length:=by
    rcases hA with h'|⟨_,h'⟩
    .exact bQ h'
    .exact bQ h'
   have qF:(Ts.take (i+1)).flatMap af=(Ts.take i).flatMap af++af T0:=by
    rw[rK,hT,qf];simp
   obtain⟨M,Q⟩:∃G,G=((Ts.take i).flatMap af).foldl (dz Ts) []:=⟨_,rfl⟩;have O:((Ts.take (i+1)).flatMap af).foldl (dz Ts) []=(af T0).foldl (dz Ts) M:=by rw[qF,nV,Q]
   rw[<-Q] at W;have em:((bh T0).map λp=>keyOf p.1)=(af T0).map D.str:=HH T0;have go:∀(o:Obj) (S B1:Ar) (Dn:lU),S.length=A.length->S[t]?=some (.bI o (bh T0))->iV S r Ts->Gr S B1->mW A.length NN B1 M->(∀(Y:Ar) (y z:Option D),mW A.length NN Y ((af T0).foldl (dz Ts) M)->Gr S Y->Dn.nx [some (.ref r),some (.ref A.length),some (.ref (A.length+1)),some (.ref t),y,z] Y)->
     pL (tY (aX 3)) (gN 4) (rm (fO (bO (inD true) (aX 4) (aX 2))) (gI (jQ 5 (iK 2 zZ RE (bE (aX 0) (bE (aX 4) dR)))) (gI (CA (Ax C6 (aX 2) (bE (aX 5) dR))) (CA (Fg Aa (aX 1) (bE (aX 5) dR))))) uQ) Dn [some (.ref r),some (.ref A.length),some (.ref (A.length+1)),some (.ref t),y,z] B1:=λo S B1 Dn Zo hf QM g1 QZ fin=>by
    refine xm (g1.get hf) ?_;rw[em];refine dW (λrest τ Z=>∃(k a:Ap) (y z:Option D),rest=a.map D.str/\k++a=af T0/\τ=[some (.ref r),some (.ref A.length),some (.ref (A.length+1)),some (.ref t),y,z]/\mW A.length NN Z (k.foldl (dz Ts) M)/\Gr S Z) ?_ ?_ ?_ _ _ _ ⟨[],af T0,y,z,rfl,rfl,rfl,QZ,g1⟩
    .rintro rest τ Z ⟨_,_,_,_,_,_,_,_,g'⟩
     exact g'.get hf
    .rintro v rest τ Z ⟨k,a,y,z,e,d,rfl,J,g'⟩ Zb GZ
     cases a with
     |nil=>cases e
     |cons n a=>
     cases e;have Rj:n∈af T0:=by rw[<-d];simp
     have Hf:n∈NN:=ar.sub T0 Ho n Rj;have l:(k++[n]).foldl (dz Ts) M=dz Ts (k.foldl (dz Ts) M) n:=by rw[nV];rfl
     generalize QS:k.foldl (dz Ts) M=G3 at*
     obtain⟨gs,kvs,ns,k1,k2,k3,k4,k5,k6,k7⟩:=id J;refine oQ k3 rfl ?_;rw[aB rfl,xq k4];refine cN (λc=>?_) (λc=>?_)
     .have U:n∉fk G3:=λz=>c ((k6 n).mpr z)
      obtain⟨qY,_,_⟩:=iw ar Hf;refine⟨rfl,r,n,Ts,NN,rfl,QM.gr g',ar,Hf,λY q2 I h2=>?_⟩;obtain⟨lq,u,m1,m2,m3⟩:=id h2;have lB:=bQ k3;have ln:ns.length<=12:=d7 (iu ns NN k5 k7) ar.nn;have SM:kvs.length=ns.length:=by
       have:=bM List.length k4;simpa using this
      have SN:u.length=(aH Ts n).length:=by
       have:=bM List.length m2;simpa[au] using this
      have lP:=qY.len;have T5:=ar.nn;refine⟨BA (I.get k3),LB (I.get k3) m1 ω ω ?_⟩;have hb:=gJ (i:=A.length+1) (j:=A.length) (c:=C.dct (lG kvs u)) ω (I.get k1);have oW:=k2.len;refine⟨gn hb,qv hb ?_ ?_⟩
      .rw[aM,oW]
       have l1:=Bo Ts k M;have l2:=Bo Ts ((Ts.take i).flatMap af) [];have l3:=Ii (Ts.take i) λT' oN=>(ar.tok T' (vc oN)).len;have l4:k.length<=32:=by
        have h1:=bM List.length d;have h2:=(ar.tok T0 Ho).len;have e:(af T0).length=T0.length:=by simp[af]
        rw[eE] at h1;omega
       rw[pT] at l3;have h7:=ar.len;rw[QS] at l1;rw[<-Q] at l2;rw[length_nil,zero_add] at l2;omega
      obtain⟨ns',j1,j2,j3⟩:=Ie k4 m2 k5;have eg:dz Ts G3 n=G3++[aH Ts n]:=by unfold dz;rw[av U]
      refine GZ _ _ ⟨k++[n],a,_,_,rfl,by simpa using d,rfl,?_,?_⟩
      .rw[l,eg]
       refine⟨gs++[q2],_,ns',?_,?_,gJ ω (uR (I.get k3)),j1,j2,λm=>?_,λm hm=>?_⟩
       .rw[c_]
        exact uR hb
       .refine fM.snoc ?_ (k2.kE λq P z=>((z.gr I).set ω).set ω)
        exact((h2.lo ω).set ω).set ω
       .rw[j3,k6]
        simp[fk]
       .rcases (j3 m).mp hm with h'|h'
        .exact k7 m h'
        .exact qY.sub m h'
      .exact(((g'.trans I).set ω).set ω)
     .have U:n∈fk G3:=(k6 n).mp c
      have eg:dz Ts G3 n=G3:=by unfold dz;rw[aB U]
      refine GZ _ _ ⟨k++[n],a,_,_,rfl,by simpa using d,rfl,?_,g'⟩;rw[l,eg];exact J
    .rintro τ Z ⟨k,a,y,z,e,d,rfl,J,g'⟩
     cases a with
     |cons _ _=>cases e
     |nil=>
     have d:k=af T0:=by simpa using d
     subst d;exact fin Z y z J g'
   rcases hA with hd|⟨o,hd⟩
   .refine .inl ⟨t,bh T0,g.get hd,λo=>?_⟩
    have Zi:A1.set t (.bI o (bh T0))=A1.set t (.bI o (bh T0)):=rfl;have QJ:Gr (A.set t (.bI o (bh T0))) (A1.set t (.bI o (bh T0))):=by
     obtain⟨X,rfl⟩:=g;exact⟨X,by rw[zf _ _ tl]⟩
    refine go o (A.set t (.bI o (bh T0))) _ _ θ (eG tl) ⟨ts,?_,h2.fz hd⟩ QJ (W.set tl) λY y z V I=>?_
    .have:t≠r:=λz=>by rw[z,h1] at hd;cases hd
     exact gJ this h1
    .obtain⟨u1,u2⟩:=QH hd I
     refine⟨bh T0,u1,hN _ _ ⟨i+1,_,_,_,ω,rfl,rfl,?_,u2⟩⟩;rw[O];exact V.set tl
   .refine .inr (go o A _ _ rfl hd hB g W λY y z V I=>hN _ _ ⟨i+1,_,_,_,ω,rfl,rfl,?_,I⟩)
    rw[O];exact V
  .rw[rZ (by rw[aM];omega)] at e
   cases e
 .rintro τ A1 ⟨i,x,y,z,hi,e,rfl,W,g⟩
  have hi:i=ts.length:=by
   have:=bM List.length e;simp at this;omega
  have BX:=h2.len;rw[hi,BX,take_length] at W;obtain⟨gs,kvs,ns,k1,k2,_⟩:=W;exact q _ _ g ⟨aJ _,gs,k1,k2.kE λq P z=>z.lo ω⟩
def bwd(ss:List bC):List bC:=ss.reverse.map λs=>(s.1,s.2.2,s.2.1)
noncomputable def yJ(Ts:Bz)(i:Nat)(n:Str):Rat:=match Ts[i]? with
 |some T=>aE T n
 |none=>0
noncomputable def cB(Ts:Bz)(s:bC):Rat:=yJ Ts s.1 s.2.2/yJ Ts s.1 s.2.1
noncomputable def dH(Ts:Bz)(ss:List bC):Rat:=ss.foldl (λx s=>x*cB Ts s) 1
def eO(Ts:Bz)(s:bC):Prop:=∃T,Ts[s.1]?=some T/\s.2.1∈af T/\s.2.2∈af T
theorem jR{Ts:Bz}{i:Nat}{T:Tb}(h:Ts[i]?=some T)(n:Str):yJ Ts i n=aE T n:=by
 unfold yJ;rw[h]
theorem rj{a b:Int}(d:0<a)(c:0<b):(rf ((a:Rat)/(b:Rat))).1<=a/\(rf ((a:Rat)/(b:Rat))).2<=b:=by
 rw[<-yE c];exact⟨r8 _ (dM d),r8 _ (dM c)⟩
theorem We{x y:Rat}(a:0<x)(b:0<y):(rf (x*y)).1<=(rf x).1*(rf y).1:=by
 rw[<-Cz];exact(rj (dm (cV a) (cV b)) (dm (cj x) (cj y))).1
theorem wu{x y:Rat}(b:0<x)(a:0<y):x/y=(((rf x).1*(rf y).2:Int):Rat)/(((rf x).2*(rf y).1:Int):Rat):=by
 have h1:=gP (fW (cj x));have h2:=gP (fW (cj y));have c:=gP (fW (cV a));conv=>lhs;rw[<-gc x,<-gc y]
 rw[gv,gv];grind
theorem K9{Ts:Bz}{s:bC}(d:∀T∈Ts,jm T)(h:eO Ts s):0<cB Ts s/\(rf (cB Ts s)).1<=4000000000000/\(rf (cB Ts s)).2<=4000000000000:=by
 obtain⟨T,h1,h2,e⟩:=h;have b:=d T (cF h1);have k:=mD b h2;have a:=mD b e;unfold cB;rw[jR h1,jR h1];have p2:=cV k.pos;have f:=cV a.pos;have c:=cj (aE T s.2.1);have g:=cj (aE T s.2.2);have hpos:0<aE T s.2.2/aE T s.2.1:=by
  rw[rW];exact mS a.pos (vz.mpr k.pos)
 refine⟨hpos,?_⟩;rw[wu a.pos k.pos];obtain⟨l,m⟩:=rj (dm f c) (dm g p2);have i:(rf (aE T s.2.2)).1*(rf (aE T s.2.1)).2<=2000000*2000000:=dc a.num k.den (dM c) δ;have j:(rf (aE T s.2.2)).2*(rf (aE T s.2.1)).1<=2000000*2000000:=dc a.den k.num (dM p2) δ;exact⟨ω,ω⟩
theorem E7{Ts:Bz}(a:∀T∈Ts,jm T):∀(e:List bC) (x:Rat) (k:Nat),(∀s∈e,eO Ts s)->0<x->(rf x).1<=(4000000000000:Int) ^ k->0<e.foldl (λx s=>x*cB Ts s) x/\(rf (e.foldl (λx s=>x*cB Ts s) x)).1<=(4000000000000:Int) ^ (k+e.length)
 |[],x,k,_,h1,h2=>⟨h1,h2⟩
 |s::e,x,k,b,h1,h2=>by
  obtain⟨p,q,_⟩:=K9 a (b s (bw ..));have c:(rf (x*cB Ts s)).1<=(4000000000000:Int) ^ (k+1):=by
   refine fh (We h1 p) ?_;rw[jz];exact dc h2 q (dM (cV p)) (nL δ)
  have:=E7 a e (x*cB Ts s) (k+1) (λy d=>b y (bq _ d)) (mS h1 p) c;rw[iF,iA,(ω:k+(e.length+1)=k+1+e.length)];exact this
theorem Aq{Ts:Bz}(a:∀T∈Ts,jm T){c:List bC}(b:∀s∈c,eO Ts s):0<dH Ts c/\(rf (dH Ts c)).1<=(4000000000000:Int) ^ c.length:=by
 have:=E7 a c 1 0 b δ (by rw[uN];decide);rw[zero_add] at this;exact this
theorem qy(Ts:Bz)(a:List bC)(s:bC):dH Ts (a++[s])=dH Ts a*cB Ts s:=by
 unfold dH;rw[nV];rfl
theorem Hz{A:Ar}{t:Nat}{T:Tb}{n:Str}{R:DK}(h:TabAt A t T)(a:n∈af T)(k:R (fq (aE T n)) A):kB t (.str n) A R:=by
 rcases h with h|⟨o,h⟩
 .exact gC h rfl (lz a) k
 .exact BE h rfl (lz a) k
def DZ:Ct:=λds A R _=>∃q ss,ds=[.ref q]/\A[q]?=some (.lst (ss.map cR))/\ss.length<=100/\∀A' p,Gr A A'->A'[p]?=some (.lst ((bwd ss).map cR))->A.length<=p->R (.ref p) A'
def zS:Ct:=λds A R _=>∃r q Ts ss,ds=[.ref r,.ref q]/\iV A r Ts/\(∀T∈Ts,jm T)/\A[q]?=some (.lst (ss.map cR))/\(∀s∈ss,eO Ts s)/\ss.length<=45/\∀A',Gr A A'->R (fq (dH Ts ss)) A'
theorem VB{c k:Nat}(h:c ^ (k+1)<2 ^ 2000):(c:Int) ^ k*(c:Int)<2 ^ 2000:=by
 have e:(c:Int) ^ k*(c:Int)=((c ^ (k+1):Nat):Int):=by rw[ve,jz]
 rw[e];have h2:((2 ^ 2000:Nat):Int)=(2:Int) ^ 2000:=ve 2 2000;rw[<-h2];exact Int.ofNat_lt.mpr h
theorem Cj{k:Nat}(h:k<=45):(4000000000000:Int) ^ k*4000000000000<2 ^ 2000:=
 VB (c:=4000000000000) (Nat.lt_of_le_of_lt (iT δ (ω:k+1<=46)) η)
noncomputable def jN(T:Tb):Str:=open Classical in if h:∃m,m∈af T/\∀n∈af T,¬n.cps.toList<m.cps.toList then Classical.choose h else default
theorem Ic{T:Tb}{m:Str}(h1:m∈af T)(h2:∀n∈af T,¬n.cps.toList<m.cps.toList):jN T=m:=by
 have h:∃m,m∈af T/\∀n∈af T,¬n.cps.toList<m.cps.toList:=⟨m,h1,h2⟩;have e:jN T=Classical.choose h:=by unfold jN;rw[dif_pos h]
 obtain⟨d,f⟩:=nK h;rw[e];generalize Classical.choose h=x at d f;have a:=h2 x d;have b:=f m h1;have c:x.cps.toList=m.cps.toList:=le_antisymm (kK.mp b) (kK.mp a);obtain⟨⟨x⟩⟩:=x;obtain⟨⟨m⟩⟩:=m;simp at c;rw[c]
noncomputable def jH(p:Tb×Nat):List bC:=(af p.1).map (λo=>(p.2,jN p.1,o))
noncomputable def ki(Ts:Bz):List bC:=Ts.zipIdx.flatMap jH
def D6:Ct:=λds A R _=>∃r Ts,ds=[.ref r]/\iV A r Ts/\Ts.length<=7/\(∀T∈Ts,jm T)/\∀A' q,Gr A A'->A'[q]?=some (.lst ((ki Ts).map cR))->A.length<=q->R (.ref q) A'
theorem E4:∀(l:List (Tb×Nat)),(∀p∈l,p.1.length<=32)->(l.flatMap jH).length<=32*l.length
 |[],_=>by simp
 |p::l,h=>by
  have h1:=E4 l λq a=>h q (bq _ a);have h2:(jH p).length<=32:=by
   unfold jH;rw[aM];have:=h p (bw ..);simpa[af] using this
  rw[nU,eE,iA];omega
theorem Pp(T:TopD K mg "backward" JY xY)(g:mg "reversed"=none):aC P w K mg base 1 "backward" xY (aA mg 1 DZ):=by
 refine cg T WK λk l m n nd=>⟨_,(aG (a_ (gQ (some 3) (own:=[κo,"one",κj]) (aw:=[]) (ix:=[]) rfl (OA g (aa (vr 0) ah)) (λc=>(pF rfl (iP (pG 0 (η:([κo,"one",κj]:Ap).Nodup)) (iP (pG 1 (η:([κo,"one",κj]:Ap).Nodup)) (iP (pG 2 (η:([κo,"one",κj]:Ap).Nodup)) pH))))) (λc=>(bP (aa (vr 0) (aa (vr 2) (aa (vr 1) ah)))))))),λds A R h hl=>?_⟩;obtain⟨o,p,rfl,h1,i,q⟩:=h;have r:(1000:Nat)<=sizeLine:=δ
 refine BC h1 ?_;refine ic (f:=λd=>match d with|.tup [a,b,c]=>.tup [a,c,b]|d=>d) h1 _ _ (λd hd=>?_) (by simp;omega) ?_
 .rw[List.mem_reverse] at hd
  obtain⟨st,_,rfl⟩:=aP.mp hd;exact⟨[.int ((st.1:Nat):Int),.str st.2.1,.str st.2.2],rfl,λQ j=>⟨(ω:3<=sizeLine),j⟩⟩
 have e:((p.map cR).reverse.map λd=>match d with|.tup [a,b,c]=>D.tup [a,c,b]|d=>d)=(bwd p).map cR:=by
  unfold bwd;rw[<-List.map_reverse,br,br];rfl
 rw[fm,e];exact q _ _ Gr.push aN (aJ _)
theorem Px(T:TopD K mg "comes_to" J' uA)(k:aC P w K mg base 3 "product" qX (aA mg 2 mZ))(i:aC P w K mg base 3 "quotient" uF (aA mg 2 (λds A R E=>∃a b c d:Int,ds=[.tup [.int a,.int b],.tup [.int c,.int d]]/\mZ [.tup [.int a,.int b],.tup [.int d,.int c]] A R E))):aC P w K mg base 4 "comes_to" uA (aA mg 2 zS):=by
 refine cg T WT λM hR N H nd=>⟨_,(aF (dS 2 nd (bP (aa ao (aa ao ah))))
  (aF (d_ dP rfl (cz (vr 1)) (k8 rfl (fK (dG 3 nd) (fK (dG 4 nd) (fK (dG 5 nd) k9)))) (aG (dS 2 nd (dL k M N (aa (vr 2) (aa (dL i M N (aa (dX H (dX H (vr 0) (vr 3)) (vr 5)) (aa (dX H (dX H (vr 0) (vr 3)) (vr 4)) ah))) ah))))))
  (aG (a_ (vr 2))))),λds A R h hl=>?_⟩
 obtain⟨r,Z,Ts,ss,rfl,hB,I,h1,O,Q,q⟩:=h;obtain⟨ts,n,o⟩:=hB;have hz:(1000:Nat)<=sizeLine:=δ
 refine⟨(ω:2<=sizeLine),dB h1 ?_⟩;refine dW (λrest τ A'=>∃(l f:List bC) (x y z:Option D),rest=f.map cR/\l++f=ss/\τ=[some (.ref r),some (.ref Z),some (fq (dH Ts l)),x,y,z]/\Gr A A') ?_ ?_ ?_ _ _ _ ⟨[],ss,none,none,none,rfl,rfl,rfl,Gr.refl⟩
 .rintro rest τ A' ⟨_,_,_,_,_,_,_,_,g⟩
  exact g.get h1
 .rintro v rest τ A1 ⟨l,f,x,y,z,e,j,rfl,g⟩ Nx hN
  cases f with
  |nil=>cases e
  |cons st f=>
  cases e;have p:=O st (by rw[<-j];simp);have J:∀s∈l,eO Ts s:=λs h=>O s (by rw[<-j];simp[h]);obtain⟨c1,c2⟩:=Aq I J;obtain⟨S,d2,d3⟩:=K9 I p;have ldn:l.length<=45:=by
   have:=bM List.length j;simp at this;omega
  obtain⟨T0,u,U,V⟩:=p;have L:st.1<ts.length:=by rw[o.len];exact(bK.mp u).1
  obtain⟨t,B⟩:∃t,ts[st.1]?=some t:=⟨ts[st.1],aS L⟩;obtain⟨T1,C,hA⟩:=o.get B;rw[u] at C;cases C;have F:=hA.gr g;have G:d9 (ts.map D.ref) ((st.1:Nat):Int)=some (.ref t):=oj (by rw[bz,B];rfl);have m:=I T0 (cF u);have f1:=mD m U;have f2:=mD m V;have W:=cV f1.pos;have p2:=cV f2.pos;have X:=cj (aE T0 st.2.1);have Y:=cj (aE T0 st.2.2);have EH:(2000000:Int)<2 ^ 64:=δ
  have n1:=f1.num;have n2:=f2.num;have k1:=f1.den;have k2:=f2.den;refine⟨rfl,iN (g.get n) G (Hz F V (iN (g.get n) G (Hz F U ?_)))⟩;refine⟨rfl,_,_,_,_,rfl,_,_,_,_,rfl,p2,Y,X,W,ω,ω,?_,λA2 g2=>?_⟩
  .have:(rf (aE T0 st.2.2)).1*(rf (aE T0 st.2.1)).2<=2000000*2000000:=dc n2 k1 (dM X) δ
   exact pU (show _<=(4000000000000:Int) ^ 0*4000000000000 by rw[Int.pow_zero];omega) (Cj δ)
  have eq:((rf (aE T0 st.2.2)).1:Rat)/((rf (aE T0 st.2.2)).2:Rat)*(((rf (aE T0 st.2.1)).2:Rat)/((rf (aE T0 st.2.1)).1:Rat))=cB Ts st:=by
   unfold cB;rw[jR u,jR u,<-mul_div Y W,<-wu f2.pos f1.pos]
  rw[eq];refine⟨rfl,_,_,_,_,rfl,cV c1,cj _,cV S,cj _,ω,ω,?_,λA3 g3=>?_⟩
  .refine pU ?_ (Cj ldn)
   exact dc c2 d2 (dM (cV S)) (nL δ)
  rw[gc,gc];exact hN _ _ ⟨l++[st],f,_,_,_,rfl,by simpa using j,by rw[qy];rfl,(g.trans g2).trans g3⟩
 .rintro τ A1 ⟨l,f,x,y,z,e,j,rfl,g⟩
  cases f with
  |cons _ _=>cases e
  |nil=>
  have j:l=ss:=by simpa using j
  subst j;exact q _ g
theorem Pw(T:TopD K mg "closing_steps" J_ yb)(a:mg "enumerate"=none)(j:mg "min"=none):aC P w K mg base 1 "closing_steps" yb (aA mg 1 D6):=by
 refine cg T WS λV W X Y nd=>⟨_,(aF (dS 1 nd (dO ah))
  (aF (d_ dP rfl (FO a (aa (vr 0) ah)) (k8 rfl (fK (dG 2 nd) (fK (dG 3 nd) k9))) (aF (dS 4 nd (eW (M6 rfl) Oa j boot_min (aa (vr 3) ah)))
  (aG (f7 (ig iD pZ rM uq sU (vr 1) (aa (wj (gQ none (own:=[κj]) (aw:=[κo,"first"]) (ix:=[2,4]) rfl (s8 (vr 3)) (λc=>(pG 0 (η:([κj,κo,"first"]:Ap).Nodup))) (λc=>(bP (aa (vr 1) (aa (vr 2) (aa (vr 0) ah))))))) ah))))))
  (aG (a_ (vr 1))))),λds A R h hl=>?_⟩
 obtain⟨r,Ts,rfl,I,Z,b,q⟩:=h;obtain⟨ts,h1,h2⟩:=I;have hz:(1000:Nat)<=sizeLine:=δ
 have u:=h2.len;have B:∀T∈Ts,T.length<=32:=λT s=>(b T s).len;have len:∀i,((Ts.zipIdx.take i).flatMap jH).length<=224:=λi=>by
  have:=E4 (Ts.zipIdx.take i) λp J=>by
   have:=rG.mp (vc J);exact B _ (cF this)
  rw[pT,zb] at this;omega
 refine⟨b_ _,BC (a4 h1) ?_⟩;refine dW (λrest τ A'=>∃(i:Nat) (x y z:Option D),i<=ts.length/\rest=(i9 (ts.map D.ref)).drop i/\τ=[some (.ref r),some (.ref A.length),x,y,z]/\A'[A.length]?=some (.lst (((Ts.zipIdx.take i).flatMap jH).map cR))/\Gr A A') ?_ ?_ ?_ _ _ _ ⟨0,none,none,none,b_ _,rfl,rfl,aN,Gr.push⟩
 .rintro rest τ A' ⟨i,x,y,z,_,_,_,_,g⟩
  exact g.get h1
 .rintro v rest τ L ⟨i,x,y,z,hi,e,rfl,hc,g⟩ Nx M
  by_cases k:i<ts.length
  .obtain⟨t,H⟩:∃t,ts[i]?=some t:=⟨ts[i],aS k⟩
   obtain⟨T0,s,N⟩:=h2.get H;have l:=N.gr g;have d:i<(i9 (ts.map D.ref)).length:=by rw[qE,aM];exact k
   have ev:=F7 (ds:=ts.map D.ref) (i:=i) (x:=.ref t) (by rw[bz,H];rfl);rw[mU d] at e;rw[aS d] at ev;have ev:=Option.some.inj ev;rw[ev] at e;cases e;have f:=b T0 (cF s);have C:((Ts.zipIdx.take (i+1)).flatMap jH)=((Ts.zipIdx.take i).flatMap jH)++jH (T0,i):=by
    rw[LK s,qf];simp
   have ln:=len i;have E:af T0≠[]:=λz=>f.ne (by simpa[af] using z);have O:=f.len;have F:(af T0).length=T0.length:=by simp[af]
   refine⟨rfl,Tr l (ud T0) E λm S n=>?_⟩;have G:=Ic S n;refine⟨gn hc,GC (λo=>.tup [.int ((i:Nat):Int),.str m,o]) rfl l ω (λA' o ho Q U=>⟨(ω:3<=sizeLine),U⟩) ?_⟩;refine qI (a4 hc) aN (by rw[aM,aM,F];omega) ?_;have em:((af T0).map λo=>D.tup [.int ((i:Nat):Int),.str m,.str o])=(jH (T0,i)).map cR:=by
    unfold jH;rw[br,G];rfl
   refine M _ _ ⟨i+1,_,_,_,ω,rfl,rfl,?_,(g.trans Gr.push).set (aJ _)⟩;rw[C,c_,em];exact get_set (a4 hc)
  .rw[rZ (by rw[qE,aM];omega)] at e
   cases e
 .rintro τ L ⟨i,x,y,z,hi,e,rfl,hc,g⟩
  have hi:i=ts.length:=by
   have:=bM List.length e;simp[qE] at this;omega
  rw[hi,u,vj (by rw[zb];exact aJ _)] at hc;exact q _ _ g hc (aJ _)
def gp(Gs:List aU)(n:Str):List bC:=Gs.foldl (λacc P=>if n∈au P then cX P n else acc) []
theorem SO(a:List aU)(P:aU)(n:Str):gp (a++[P]) n=if n∈au P then cX P n else gp a n:=by
 unfold gp;rw[nV];rfl
noncomputable def je(Ts:Bz)(s:bC):List bC:=gp (bg Ts) s.2.1++[s]++bwd (gp (bg Ts) s.2.2)
noncomputable def gR(Ts:Bz):Option (List bC):=((ki Ts).map (je Ts)).find? (λss=> !decide (dH Ts ss=1))
theorem fM.get{lo:Nat}{A:Ar}:∀{qs:Dx} {Ps:List aU} {i q:Nat},fM lo A qs Ps->qs[i]?=some q->∃P,Ps[i]?=some P/\gZ lo A q P
 |[],[],i,t,_,e=>by simp at e
 |t::ts,T::Ts,0,_,h,e=>by
  simp at e;subst e;exact⟨T,rfl,h.1⟩
 |t::ts,T::Ts,i+1,_,h,e=>by
  obtain⟨a,h1,h2⟩:=fM.get (i:=i) h.2 (by simpa using e);exact⟨a,by simpa using h1,h2⟩
 |[],_::_,_,_,h,_=>h.elim
 |_::_,[],_,_,h,_=>h.elim
theorem GR{Ts:Bz}:∀(ns:Ap) (a:List aU) (P:aU),P∈ns.foldl (dz Ts) a->P∈a\/∃n∈ns,P=aH Ts n
 |[],a,P,h=>.inl h
 |n::ns,a,P,h=>by
  rcases GR ns (dz Ts a n) P h with h|⟨m,h1,h2⟩
  .unfold dz at h
   split at h
   .exact .inl h
   .rcases bR.mp h with h|h
    .exact .inl h
    .exact .inr ⟨n,bw ..,bS.mp h⟩
  .exact .inr ⟨m,bq _ h1,h2⟩
theorem gB{Ts:Bz}{NN:Ap}(ar:dw Ts NN){P:aU}(h:P∈bg Ts):∃n∈NN,(∃T∈Ts,n∈af T)/\P=aH Ts n:=by
 rcases GR _ _ P h with h|⟨n,h1,h2⟩
 .cases h
 .obtain⟨T,a,b⟩:=fG.mp h1
  exact⟨n,ar.sub T a n b,⟨T,a,b⟩,h2⟩
theorem EO{Ts:Bz}:∀(f i:Nat) (P:aU),(∀p∈P,∀s∈p.2,eO Ts s)->∀p∈eS Ts f i P,∀s∈p.2,eO Ts s
 |0,i,P,h=>h
 |f+1,i,P,h=>by
  cases e:P[i]? with
  |none=>
   have:eS Ts (f+1) i P=P:=by
    show(match P[i]? with|some p=>eS Ts f (i+1) ((ff Ts p.1).foldl cP P)|none=>P)=_;rw[e]
   rw[this];exact h
  |some d=>
   rw[sL e];refine EO f (i+1) _ ?_;have key:∀(o:List bC) (Q:aU),(∀s∈o,s∈ff Ts d.1)->(∀p∈Q,∀s∈p.2,eO Ts s)->∀p∈o.foldl cP Q,∀s∈p.2,eO Ts s:=by
    intro o;induction o with
    |nil=>intro Q _ h;exact h
    |cons s o g=>
     intro Q b a;refine g _ (λx j=>b x (bq _ j)) λp hp s' hs'=>?_;unfold cP at hp;split at hp
     .exact a p hp s' hs'
     .rcases bR.mp hp with hp|hp
      .exact a p hp s' hs'
      .rw[bS.mp hp] at hs'
       rcases bR.mp hs' with hs'|hs'
       .by_cases c:s.2.1∈au Q
        .exact a _ (jM c) s' hs'
        .have k:cX Q s.2.1=[]:=by
          have:=find_some (T:=Q) (n:=s.2.1);rw[d8 (show ¬s.2.1∈Q.map (·.1) from c)] at this;unfold cX;cases e:Q.find? (λp=>decide (p.1=s.2.1)) with
          |none=>rfl
          |some p=>rw[e] at this;cases this
         rw[k] at hs';cases hs'
       .rw[bS.mp hs']
        obtain⟨T,h1,h2,l,m⟩:=oX.mp (b s (bw ..));exact⟨T,h1,by rw[l];exact h2,m⟩
   exact key _ _ (λs h=>h) h
theorem uI{Ts:Bz}{n:Str}:∀p∈aH Ts n,∀s∈p.2,eO Ts s:=
 EO 14 0 _ λp b s a=>by
  have:p=(n,[]):=by simpa using b
  rw[this] at a;cases a
theorem HS{Ts:Bz}{NN:Ap}(ar:dw Ts NN)(n:Str):∀(g:List aU) (acc:List bC),(∀P∈g,P∈bg Ts)->((∀s∈acc,eO Ts s)/\acc.length<=NN.length - 1)->(∀s∈g.foldl (λacc P=>if n∈au P then cX P n else acc) acc,eO Ts s)/\(g.foldl (λacc P=>if n∈au P then cX P n else acc) acc).length<=NN.length - 1
 |[],acc,_,h=>h
 |P::g,acc,h,c=>by
  rw[iF];refine HS ar n g _ (λQ d=>h Q (bq _ d)) ?_;split
  .rename_i e
   obtain⟨m,f,_,rfl⟩:=gB ar (h P (bw ..));obtain⟨b,_,_⟩:=iw ar f;have a:=jM e;refine⟨uI _ a,?_⟩;have h1:=b.pl _ a;have h2:=b.len;simp at h1;omega
  .exact c
theorem qS{Ts:Bz}{NN:Ap}(ar:dw Ts NN)(a:List aU)(n:Str)(h:∀P∈a,P∈bg Ts):(∀s∈gp a n,eO Ts s)/\(gp a n).length<=NN.length - 1:=
 HS ar n a [] h ⟨(λs h=>by cases h),b_ _⟩
theorem MY{Ts:Bz}{e:List bC}(h:∀s∈e,eO Ts s):∀s∈bwd e,eO Ts s:=λs d=>by
 unfold bwd at d;obtain⟨s',h1,rfl⟩:=aP.mp d;obtain⟨T,a,b,c⟩:=h s' (List.mem_reverse.mp h1);exact⟨T,a,c,b⟩
theorem Ai{Ts:Bz}{s:bC}(h:s∈ki Ts):∃T,Ts[s.1]?=some T/\s.2.1=jN T/\s.2.2∈af T:=by
 unfold ki at h;obtain⟨⟨T,i⟩,a,b⟩:=fG.mp h;have a:=rG.mp a;unfold jH at b;obtain⟨o,c,rfl⟩:=aP.mp b;exact⟨T,a,rfl,c⟩
theorem xJ{T:Tb}(h:T≠[]):jN T∈af T/\∀n∈af T,¬n.cps.toList<(jN T).cps.toList:=by
 have key:∀ns:Ap,ns≠[]->∃m,m∈ns/\∀n∈ns,¬n.cps.toList<m.cps.toList:=by
  intro ns;induction ns with
  |nil=>intro h;exact absurd rfl h
  |cons a ns c=>
   intro _;by_cases hn:ns=[]
   .subst hn
    exact⟨a,θ,λn hn=>by
     have:n=a:=by simpa using hn
     rw[this];exact kP _⟩
   .obtain⟨m,h1,h2⟩:=c hn
    by_cases b:a.cps.toList<m.cps.toList
    .refine⟨a,θ,λn hn=>?_⟩
     rcases bx.mp hn with rfl|hn
     .exact kP _
     .exact λz=>h2 n hn (vv z b)
    .refine⟨m,by simp[h1],λn hn=>?_⟩
     rcases bx.mp hn with rfl|hn
     .exact b
     .exact h2 n hn
 obtain⟨m,h1,h2⟩:=key (af T) (λz=>h (by simpa[af] using z));rw[Ic h1 h2];exact⟨h1,h2⟩
theorem Wg{Ts:Bz}{NN:Ap}(ar:dw Ts NN){s:bC}(h:s∈ki Ts):(∀x∈je Ts s,eO Ts x)/\(je Ts s).length<=2*(NN.length - 1)+1:=by
 obtain⟨T,h1,h2,a⟩:=Ai h;have b:=cF h1;obtain⟨f,g⟩:=qS ar (bg Ts) s.2.1 λP h=>h;obtain⟨c,e⟩:=qS ar (bg Ts) s.2.2 λP h=>h;have d:eO Ts s:=⟨T,h1,by rw[h2];exact(xJ (ar.tok T b).ne).1,a⟩;unfold je;constructor
 .intro x hx
  rcases bR.mp hx with hx|hx
  .rcases bR.mp hx with hx|hx
   .exact f x hx
   .rw[bS.mp hx]
    exact d
  .exact MY c x hx
 .simp[bwd]
  omega
def Eo:Ct:=λds A R _=>∃r Ts NN,ds=[.ref r]/\iV A r Ts/\dw Ts NN/\(gR Ts=none->∀A',Gr A A'->R .aD A')/\∀ss,gR Ts=some ss->∀A' q,Gr A A'->A'[q]?=some (.lst (ss.map cR))->A.length<=q->R (.ref q) A'
def zY:Ct:=λds A R E=>∃r Ts NN,ds=[.ref r]/\iV A r Ts/\dw Ts NN/\(gR Ts=none->∀A',Gr A A'->R .aD A')/\(gR Ts≠none->∀A',Gr A A'->E "Never" A')
theorem B0:∀(a kvs:List (Key×D)) (k:Key),(a.map (·.1)).Nodup->bA (lG kvs a) k=match bA a k with|some v=>some v|none=>bA kvs k
 |[],kvs,k,_=>rfl
 |p::a,kvs,k,c=>by
  have b:=kJ.mp (show(p.1::a.map (·.1)).Nodup from c);show bA (lG (cQ kvs p.1 p.2) a) k=_;rw[B0 a _ k b.2,wK];show _=match (if p.1=k then some p.2 else bA a k) with|some v=>some v|none=>bA kvs k
  by_cases e:p.1=k
  .rw[aB e,aB e]
   have:bA a k=none:=by
    cases h:bA a k with
    |none=>rfl
    |some v=>
     exfalso;refine b.1 ?_;rw[e];clear B0 c b;induction a with
     |nil=>cases h
     |cons q a f=>
      have h:(if q.1=k then some q.2 else bA a k)=some v:=h;by_cases d:q.1=k
      .simp[d]
      .rw[av d] at h
       simp[f h]
   rw[this]
  .rw[av e,av e]
def sA(b:Nat)(NN:Ap)(A:Ar)(Gs:List aU):Prop:=∃(kvs:List (Key×D)) (ns:Ap),A[b]?=some (.dct kvs)/\kvs.map (·.1)=ns.map Sum.inr/\ns.Nodup/\(∀n,n∈ns↔n∈fk Gs)/\(∀n∈ns,n∈NN)/\∀n∈ns,∃a,b<a/\bA kvs (Sum.inr n)=some (.ref a)/\A[a]?=some (.lst ((gp Gs n).map cR))
theorem sA.gr{b:Nat}{NN:Ap}{A B:Ar}{Gs:List aU}(h:sA b NN A Gs)(g:Gr A B):sA b NN B Gs:=by
 obtain⟨kvs,ns,h1,h2,c,d,e,f⟩:=h;exact⟨kvs,ns,g.get h1,h2,c,d,e,λn i=>by obtain⟨a,x,y,z⟩:=f n i;exact⟨a,x,y,g.get z⟩⟩
theorem Ij{ns:Ap}(h:ns.Nodup):(ns.map (Sum.inr:Str->Key)).Nodup:=by
 exact Pairwise.map _ (λa b c e=>c (Sum.inr.inj e)) h
theorem Qd(T:TopD K mg "find_ring" Ka yc)(l:aC P w K mg base 3 "groups" qW (aA mg 1 vK))(d:aC P w K mg base 1 "closing_steps" yb (aA mg 1 D6))(f:aC P w K mg base 1 "backward" xY (aA mg 1 DZ))(j:aC P w K mg base 4 "comes_to" uA (aA mg 2 zS)):aC P w K mg base 5 "find_ring" yc (aA mg 1 Eo):=by
 refine cg T WU λX hR Y L nd=>⟨_,(aF (dS 1 nd wh)
  (aF (d_ dP rfl (cz (dL l X Y (aa (vr 0) ah))) (dG 2 nd) (aG (f7 (AF zd slot_dict_update PySem.F.type_dict_update Ig Ft (vr 1) (aa (vr 2) ah)))))
  (aF (d_ dP rfl (cz (dL d X Y (aa (vr 0) ah))) (dG 3 nd) (aF (dS 4 nd (fC (fC (dX L (vr 1) (dX L (vr 3) ao)) (dO (aa (vr 3) ah))) (dL f X Y (aa (dX L (vr 1) (dX L (vr 3) ao)) ah))))
  (aG (cG (jv L (dL j X Y (aa (vr 0) (aa (vr 4) ah))) (bP (aa ao (aa ao ah)))) (aG (a_ (vr 4))) cJ))))
  (aG (a_ sY))))),λds A R h hl=>?_⟩
 obtain⟨r,Ts,NN,rfl,hB,ar,q1,q2⟩:=h;have hz:(1000:Nat)<=sizeLine:=δ
 have e1:(A++[C.dct []]).length=A.length+1:=θ
 refine⟨rfl,r,Ts,NN,rfl,hB.gr Gr.push,ar,λA1 q0 g1 hG=>?_⟩;obtain⟨lq,gs,M,B⟩:=hG;rw[e1] at lq B;have oW:=B.len;have QT:sA A.length NN A1 []:=⟨[],[],g1.get aN,rfl,pX,λn=>by simp[fk],(λn h=>by cases h),(λn h=>by cases h)⟩;have Qx:Gr A A1:=Gr.push.trans g1;refine dB M ?_;refine dW (λrest τ A'=>∃(i:Nat) (x:Option D),i<=gs.length/\rest=(gs.map D.ref).drop i/\τ=[some (.ref r),some (.ref A.length),x,none,none]/\sA A.length NN A' ((bg Ts).take i)/\A'[q0]?=some (.lst (gs.map D.ref))/\fM (A.length+1) A' gs (bg Ts)/\Gr A A') ?_ ?_ ?_ _ _ _ ⟨0,none,b_ _,rfl,rfl,QT,M,B,Qx⟩
 .rintro rest τ A' ⟨_,_,_,_,_,_,h,_,_⟩
  exact h
 .rintro v rest τ A2 ⟨i,x,hi,e,rfl,Z,hq,hP,E⟩ Nx hN
  by_cases N:i<gs.length
  .obtain⟨t,ht⟩:∃t,gs[i]?=some t:=⟨gs[i],aS N⟩
   obtain⟨P0,O,QX⟩:=hP.get ht;have u:i<(gs.map D.ref).length:=by rw[aM];exact N
   have ev:(gs.map D.ref)[i]?=some (.ref t):=by rw[bz,ht];rfl
   rw[mU u] at e;rw[aS u] at ev;have ev:=Option.some.inj ev;rw[ev] at e;cases e;obtain⟨m,hm,_,eP⟩:=gB ar (cF O);obtain⟨p,_,_⟩:=iw ar hm;rw[<-eP] at p;obtain⟨S5,b,m1,m2,m3⟩:=id QX;obtain⟨kvs,ns,k1,k2,k3,k4,k5,k6⟩:=Z;have qF:(bg Ts).take (i+1)=(bg Ts).take i++[P0]:=by rw[rK,O];rfl
   have ln:ns.length<=12:=d7 (iu ns NN k3 k5) ar.nn;have SM:kvs.length=ns.length:=by
    have:=bM List.length k2;simpa using this
   have SN:b.length=P0.length:=by
    have:=bM List.length m2;simpa[au] using this
   have lP:=p.len;have T5:=ar.nn;obtain⟨ns',j1,j2,j3⟩:=Ie k2 m2 k3;have TF:(b.map (·.1)).Nodup:=by rw[m2];exact Ij p.nd
   refine⟨BA k1,LB k1 m1 ω ω ?_⟩;refine hN _ _ ⟨i+1,_,ω,rfl,rfl,?_,gJ ω hq,hP.kE λq P z=>z.set ω,E.set (aJ _)⟩;rw[qF];refine⟨_,ns',uR k1,j1,j2,λn=>?_,λn hn=>?_,λn hn=>?_⟩
   .rw[j3,k4]
    simp[fk]
   .rcases (j3 n).mp hn with h'|h'
    .exact k5 n h'
    .exact p.sub n h'
   .rw[B0 _ _ _ TF,SO]
    by_cases o:n∈au P0
    .obtain⟨a,z,ga,ha⟩:=m3 n o
     rw[ga,aB o];exact⟨a,ω,rfl,gJ ω ha⟩
    .have hn1:n∈ns:=by
      rcases (j3 n).mp hn with h'|h'
      .exact h'
      .exact absurd h' o
     have e0:bA b (Sum.inr n)=none:=by
      have:=xq (n:=n) m2;rw[d8 o] at this;cases e:bA b (Sum.inr n) with
      |none=>rfl
      |some v=>rw[e] at this;cases this
     obtain⟨a,z,ga,ha⟩:=k6 n hn1;rw[e0,av o];exact⟨a,z,ga,gJ ω ha⟩
  .rw[rZ (by rw[aM];omega)] at e
   cases e
 rintro τ A2 ⟨i,x,hi,e,rfl,Z,hq,hP,E⟩;have hi:i=gs.length:=by
  have:=bM List.length e;simp at this;omega
 rw[hi,oW,take_length] at Z;refine⟨rfl,r,Ts,rfl,hB.gr E,ar.len,ar.tok,λA3 q3 g3 h3 l3=>?_⟩;refine dB h3 ?_;refine dW (λrest τ A'=>∃(G b:List bC) (y z:Option D),rest=b.map cR/\G++b=ki Ts/\(∀s∈G,dH Ts (je Ts s)=1)/\τ=[some (.ref r),some (.ref A.length),x,y,z]/\Gr A3 A') ?_ ?_ ?_ _ _ _ ⟨[],ki Ts,none,none,rfl,rfl,(λ_ h=>by cases h),rfl,Gr.refl⟩
 .rintro rest τ A' ⟨_,_,_,_,_,_,_,_,g⟩
  exact g.get h3
 .rintro v rest τ A4 ⟨G,b,y,z,e,k,h1,rfl,J⟩ Nx hN
  cases b with
  |nil=>cases e
  |cons st b=>
  cases e;have Q:st∈ki Ts:=by rw[<-k];simp
  obtain⟨T0,hT,c1,c2⟩:=Ai Q;have H:=cF hT;have n1:st.2.1∈fk (bg Ts):=tO ar H (by rw[c1];exact(xJ (ar.tok T0 H).ne).1);have n2:st.2.2∈fk (bg Ts):=tO ar H c2;obtain⟨kvs,ns,k1,k2,k3,k4,k5,k6⟩:=Z.gr (g3.trans J);obtain⟨a1,_,QA,ha1⟩:=k6 _ ((k4 _).mpr n1);obtain⟨a2,_,QB,ha2⟩:=k6 _ ((k4 _).mpr n2);obtain⟨_,b1⟩:=qS ar (bg Ts) st.2.1 λP h=>h;obtain⟨_,b2⟩:=qS ar (bg Ts) st.2.2 λP h=>h;obtain⟨r1,r2⟩:=Wg ar Q;have nn:=ar.nn;refine gC k1 rfl QA ⟨(ω:1<=sizeLine),ow (a4 ha1) aN (by simp;omega) ?_⟩;refine gC (a4 (a4 k1)) rfl QB ?_;refine⟨rfl,a2,_,rfl,a4 (a4 ha2),ω,λA5 q5 g5 h5 l5=>?_⟩;have S:A5[(A4++[C.lst [cR st]]).length]?=some (.lst ((gp (bg Ts) st.2.1).map cR++[cR st])):=g5.get aN;have ZH:(bwd (gp (bg Ts) st.2.2)).length<=11:=by simp[bwd];omega
  refine ow S h5 (by simp;omega) ?_;have em:(gp (bg Ts) st.2.1).map cR++[cR st]++(bwd (gp (bg Ts) st.2.2)).map cR=(je Ts st).map cR:=by
   unfold je;simp
  rw[em];have U:Gr A4 (A5++[C.lst ((je Ts st).map cR)]):=((Gr.push.trans Gr.push).trans g5).trans Gr.push;have V:=(g3.trans J).trans U;refine⟨rfl,r,A5.length,Ts,je Ts st,rfl,hB.gr (E.trans V),ar.tok,aN,r1,ω,λA6 g6=>⟨(ω:2<=sizeLine),xK (y:=1) ?_⟩⟩;refine cN (λc=>?_) (λc=>?_)
  .have er:gR Ts=some (je Ts st):=by
    unfold gR;rw[<-k,c_,find?_append,cM];have e0:(G.map (je Ts)).find? (λss=> !decide (dH Ts ss=1))=none:=by
     rw[nS];intro ss I;obtain⟨s,W,rfl⟩:=aP.mp I;simp[h1 s W]
    rw[e0,List.find?_cons_of_pos (by simpa using c)];rfl
   have ll:=(E.trans (g3.trans J)).len;have Sz:=g5.len;simp at Sz;exact q2 _ er A6 _ ((E.trans V).trans g6) (g6.get aN) ω
  .refine hN _ _ ⟨G++[st],b,_,_,rfl,by simpa using k,λs W=>?_,rfl,(J.trans U).trans g6⟩
   rcases bR.mp W with h'|h'
   .exact h1 s h'
   .rw[bS.mp h']
    exact c
 .rintro τ A4 ⟨G,b,y,z,e,k,h1,rfl,J⟩
  cases b with
  |cons _ _=>cases e
  |nil=>
  have k:G=ki Ts:=by simpa using k
  subst k;refine q1 ?_ _ ((E.trans g3).trans J);unfold gR;rw[nS];intro ss I;obtain⟨s,W,rfl⟩:=aP.mp I;simp[h1 s W]
theorem P4(T:TopD K mg "check_no_ring" J4 uz){b:Addr}(c:mg "Never"=some (.ref b))(d:excIn K b mG "ValueError.__new__"=true)(a:aC P w K mg base 5 "find_ring" yc (aA mg 1 Eo)):aC P w K mg base 6 "check_no_ring" uz (aA mg 1 zY):=by
 refine cg T WQ λi j k o nd=>⟨_,(aG (cG (Lk (dL a i k (aa (vr 0) ah)) sY) (aG (oF j rfl c d (aa cH ah))) cJ)),λds A R h hl=>?_⟩;obtain⟨r,Ts,NN,rfl,l,ar,m,n⟩:=h;exact⟨rfl,r,Ts,NN,rfl,l,ar,λe f g=>m e f g,λq e f p g h1 l1=>⟨(δ:1<=sizeLine),n (by rw[e];simp) f g⟩⟩
def gG(T:Tb)(n:Str)(x:Rat):Tb:=if (T.any λp=>decide (p.1=n))=true then T.map (λp=>if p.1=n then (p.1,x) else p) else T++[(n,x)]
def aI(m:M):Tb:=(cA m "" 1).foldl (λT p=>gG T p.2.1 p.2.2) []
theorem BJ(T:Tb)(n:Str)(x:Rat):bh (gG T n x)=cQ (bh T) (Sum.inr n) (fq x):=by
 have e:((bh T).any λa=>decide (a.1=(Sum.inr n:Key)))=T.any λp=>decide (p.1=n):=by
  unfold bh;rw[any_map];congr 1;funext p;show decide ((Sum.inr p.1:Key)=Sum.inr n)=decide (p.1=n);by_cases h:p.1=n
  .rw[dg h,dg (by rw[h])]
  .rw[d8 h,d8 (λz=>h (Sum.inr.inj z))]
 unfold gG cQ;rw[e];split
 .unfold bh
  rw[br,br];refine mL λp _=>?_;show((Sum.inr (if p.1=n then (p.1,x) else p).1:Key),fq (if p.1=n then (p.1,x) else p).2)=if (Sum.inr p.1:Key)=Sum.inr n then (Sum.inr p.1,fq x) else (Sum.inr p.1,fq p.2)
  by_cases h:p.1=n
  .rw[aB h,aB (by rw[h])]
  .rw[av h,av (λz=>h (Sum.inr.inj z))]
 .unfold bh
  simp
theorem BI:∀(rows:List (Str×Str×Rat)) (T:Tb),bh (rows.foldl (λT p=>gG T p.2.1 p.2.2) T)=((rows.map λp=>(p.2.1,fq p.2.2)).map λp=>((Sum.inr p.1:Key),p.2)).foldl (λacc p=>cQ acc p.1 p.2) (bh T)
 |[],T=>rfl
 |p::rows,T=>by
  rw[iF,BI rows,BJ];rfl
theorem I0(T:Tb)(n:Str)(x:Rat):af (gG T n x)=if n∈af T then af T else af T++[n]:=by
 have e:(T.any λp=>decide (p.1=n))=decide (n∈af T):=by
  rw[pS,jZ,jj];constructor
  .rintro ⟨p,a,h⟩
   rw[<-fu h];exact cZ a
  .intro h
   obtain⟨p,a,e⟩:=aP.mp h;exact⟨p,a,dg e⟩
 unfold gG;rw[e];by_cases h:n∈af T
 .rw[aB (dg h),aB h]
  unfold af;rw[br];refine mL λp _=>?_;show(if p.1=n then (p.1,x) else p).1=p.1;split<;>rfl
 .rw[av (by simpa using h),av h]
  simp[af]
theorem Gy:∀(rows:List (Str×Str×Rat)) (T:Tb) (g:Str->Rat),(af T).Nodup->(∀p∈T,p.2=g p.1)->(∀r∈rows,r.2.2=g r.2.1)->
  (af (rows.foldl (λT p=>gG T p.2.1 p.2.2) T)).Nodup/\(∀p∈rows.foldl (λT p=>gG T p.2.1 p.2.2) T,p.2=g p.1)/\∀n,n∈af (rows.foldl (λT p=>gG T p.2.1 p.2.2) T)↔n∈af T\/n∈rows.map (·.2.1)
 |[],T,g,h1,h2,_=>⟨h1,h2,λn=>θ⟩
 |r::rows,T,g,h1,h2,f=>by
  have s:(af (gG T r.2.1 r.2.2)).Nodup:=by
   rw[I0];split
   .exact h1
   .rename_i j
    rw[jX];refine⟨h1,θ,λa k b i=>?_⟩;simp at i;rw[i];exact λz=>j (by rw[<-z];exact k)
  have t:∀p∈gG T r.2.1 r.2.2,p.2=g p.1:=λp hp=>by
   have e:=f r (bw ..);unfold gG at hp;split at hp
   .obtain⟨c,d,rfl⟩:=aP.mp hp
    by_cases hc:c.1=r.2.1
    .rw[aB hc]
     show r.2.2=g c.1;rw[e,hc]
    .rw[av hc]
     exact h2 c d
   .rcases bR.mp hp with hp|hp
    .exact h2 p hp
    .rw[bS.mp hp]
     exact e
  obtain⟨l,m,o⟩:=Gy rows _ g s t λx q=>f x (bq _ q);refine⟨l,m,λn=>?_⟩;rw[iF,o,I0];by_cases h:r.2.1∈af T
  .rw[aB h]
   simp;constructor
   .rintro (h'|h')
    .exact .inl h'
    .exact .inr (.inr h')
   .rintro (h'|rfl|h')
    .exact .inl h'
    .exact .inl h
    .exact .inr h'
  .rw[av h]
   simp[or_assoc]
structure Hl(m:M):Prop where
 wf:Wf m
 deep:m.deep<=5
 bar:fN [] (cA m "" 1)=none
theorem rD{m:M}(h:Hl m):jm (aI m)/\(∀n,n∈af (aI m)↔n∈m.names)/\∀n∈af (aI m),aE (aI m) n=shr m n:=by
 obtain⟨l,o⟩:=CJ h.bar;obtain⟨c,d,f⟩:=Gy (cA m "" 1) [] (shr m) pX (λp a=>by cases a) l;have g:(cA m "" 1).map (·.2.1)=m.names:=rq m "" 1;have mem:∀n,n∈af (aI m)↔n∈m.names:=λn=>by
  show n∈af ((cA m "" 1).foldl (λT p=>gG T p.2.1 p.2.2) [])↔_;rw[f,g];simp[af]
 have i:(af (aI m)).length=(aI m).length:=by simp[af]
 have nl:=o5 h.deep;refine⟨⟨c,λz=>?_,?_,λp a=>?_⟩,mem,λn b=>?_⟩
 .have hpos:=cu.B4 m
  cases e:m.names with
  |nil=>rw[e] at hpos;simp at hpos
  |cons n t=>
   have:=(mem n).mpr (by rw[e];simp);rw[z] at this;cases this
 .have:=iu (af (aI m)) m.names c λx j=>(mem x).mp j
  omega
 .have e:p.2=shr m p.1:=d p a
  rw[e];exact Xn h.wf.arms h.deep h.bar ((mem p.1).mp (cZ a))
 .have:=find_some (T:=aI m) (n:=n)
  rw[dg (show n∈(aI m).map (·.1) from b)] at this;obtain⟨p,a⟩:=pQ.mp this;unfold aE;rw[a];have h2:=r_ a;have k:p.1=n:=fu h2;rw[<-k];exact d p (mO a)
def Ei:Ct:=λds A R _=>∃m,ds=[enc m]/\Hl m/\∀A' q,Gr A A'->A'[q]?=some (.dct (bh (aI m)))->A.length<=q->R (.ref q) A'
def gM(x:D)(ms:Fm):Prop:=x=.tup (ms.map enc)/\1<=ms.length/\ms.length<=6/\∀m∈ms,Hl m
def D4:Ct:=λds A R E=>∃x,ds=[x]/\(∃ms,gM x ms)/\((∃ms,gM x ms)->∀A',Gr A A'->R .aD A')/\((¬∃ms,gM x ms)->∀A',Gr A A'->E "NoHall" A')
def zV:Ct:=λds A R E=>∃x,ds=[x]/\(∃ms,gM x ms)/\(∀ms,gM x ms->∀A' q,Gr A A'->iV A' q (ms.map aI)->A.length<=q->R (.ref q) A')/\((¬∃ms,gM x ms)->∀A',Gr A A'->E "NoHall" A')
theorem AU:∀{a b:M},enc a=enc b->a=b
 |.wt n,.wt k,h=>by
  have h:D.tup [.str "weight",.str n]=.tup [.str "weight",.str k]:=h;simp at h;rw[h]
 |.wt n,.eZ l r a b,h=>by
  have h:D.tup [.str "weight",.str n]=.tup [.str "rod",.int l,.int r,enc a,enc b]:=h;simp at h
 |.eZ l r a b,.wt n,h=>by
  have h:D.tup [.str "rod",.int l,.int r,enc a,enc b]=.tup [.str "weight",.str n]:=h;simp at h
 |.eZ l r a b,.eZ c r' d e,h=>by
  have h:D.tup [.str "rod",.int l,.int r,enc a,enc b]=.tup [.str "rod",.int c,.int r',enc d,enc e]:=h;simp at h;obtain⟨h1,h2,f,g⟩:=h;rw[h1,h2,AU f,AU g]
theorem F4:∀{ms a:Fm},ms.map enc=a.map enc->ms=a
 |[],[],_=>rfl
 |[],_::_,h=>by cases h
 |_::_,[],h=>by cases h
 |m::ms,b::a,h=>by
  rw[cM,cM,List.cons.injEq] at h;rw[AU h.1,F4 h.2]
theorem TabsAt.snoc{A:Ar}{q:Nat}{T:Tb}(a:TabAt A q T):∀{b:Dx} {Ts:Bz},TabsAt A b Ts->TabsAt A (b++[q]) (Ts++[T])
 |[],[],_=>⟨a,trivial⟩
 |_::b,_::Ts,h=>⟨h.1,TabsAt.snoc a h.2⟩
 |[],_::_,h=>h.elim
 |_::_,[],h=>h.elim
theorem P5(T:TopD K mg "name_shares" Kp yi)(b:mg "dict"=none)(a:aC P w K mg base 10 "shares" uH (aA mg 1 z0)):aC P w K mg base 11 "name_shares" yi (aA mg 1 Ei):=by
 refine cg T W5 λj r k s nd=>⟨_,(aG (a_ (i7 (vV rfl) v_ b boot_dict (aa (gQ (some 3) (own:=["way",κi,κB]) (aw:=[]) (ix:=[]) rfl (cz (dL a j k (aa (vr 0) ah))) (λc=>(pF rfl (iP (pG 0 (η:(["way",κi,κB]:Ap).Nodup)) (iP (pG 1 (η:(["way",κi,κB]:Ap).Nodup)) (iP (pG 2 (η:(["way",κi,κB]:Ap).Nodup)) pH))))) (λc=>(bP (aa (vr 1) (aa (vr 2) ah))))) ah)))),λds A R h hl=>?_⟩;obtain⟨m,rfl,g,q⟩:=h;have hd:=g.deep;have y:(1000:Nat)<=sizeLine:=δ
 refine⟨rfl,m,rfl,g.wf,hd,λt u i h1 l1=>?_⟩;refine dB h1 ?_;have ln:=pM m "" 1;have nl:=o5 hd;refine ic (f:=λd=>match d with|.tup [_,n,x]=>.tup [n,x]|d=>d) h1 _ _ (λd hd=>?_) (by simp;omega) ?_
 .obtain⟨p,v,rfl⟩:=aP.mp hd
  exact⟨[.str p.1,.str p.2.1,fq p.2.2],rfl,λQ l=>⟨(δ:2<=sizeLine),l⟩⟩
 have e:((cA m "" 1).map yG).map (λd=>match d with|.tup [_,n,x]=>D.tup [n,x]|d=>d)=(cA m "" 1).map nC:=by
  rw[br];rfl
 rw[fm,e];refine AB aN (Cf _) (by simp;omega) ?_;refine q _ _ ((i.trans Gr.push).trans Gr.push) ?_ (by have:=i.len;simp;omega);have o:bh (aI m)=pK (((cA m "" 1).map λp=>(p.2.1,fq p.2.2)).map λp=>((Sum.inr p.1:Key),p.2)):=BI _ [];rw[o];exact aN
theorem Pu(T:TopD K mg "check_hall" J2 x9)(c:mg "isinstance"=none)(k:mg "tuple"=none)(l:mg "len"=none){t:Tok}(a:mg "MOST_MOBILES"=some (.int 6 t)){d:Addr}(f:mg "NoHall"=some (.ref d))(i:excIn K d mG "ValueError.__new__"=true)
  (j:aC P w K mg base 8 "is_mobile" uE (aA mg 1 zW))(n:aC P w K mg base 11 "bar" xZ (aA mg 1 DY)):aC P w K mg base 12 "check_hall" x9 (aA mg 1 D4):=by
 refine cg T WN λr s u L nd=>⟨_,(aF (cG (PW.pt (iL (fP (f9 (kj kit_tuple c k lO (vr 0)))) (jo (fP (CZ ao (eW ia a3 l iE (aa (vr 0) ah)) (oB a)))))) (aG (oF s rfl f i (aa cH ah))) cJ)
  (aG (d_ dP rfl (cz (vr 0)) (dG 1 nd) (aG (cG (PW.pt (iL (fP (f9 (dL j r u (aa (vr 1) ah)))) (jo (Lk (dL n r u (aa (vr 1) ah)) sY)))) (aG (oF s rfl f i (aa cH ah))) cJ))))),λds A R h hl=>?_⟩
 obtain⟨x,rfl,⟨ms,z⟩,E,N⟩:=h;obtain⟨rfl,h1,O,F⟩:=id z;have lm:(ms.map enc).length=ms.length:=aM ..;refine cD (λB=>?_) (λB=>absurd (ω:(1:Int)<=(((ms.map enc).length:Nat):Int)) B);refine cN (λC=>absurd (ω:(((ms.map enc).length:Nat):Int)<=6) C) (λC=>?_);refine dW (λrest τ A'=>∃(q b:Fm) (y:Option D),rest=b.map enc/\q++b=ms/\τ=[some (.tup (ms.map enc)),y]/\Gr A A') ?_ ?_ ?_ _ _ _ ⟨[],ms,none,rfl,rfl,rfl,Gr.refl⟩
 .intro _ _ _ _
  trivial
 .rintro v rest τ G ⟨q,b,y,e,o,rfl,g⟩ Q H
  cases b with
  |nil=>cases e
  |cons m b=>
   cases e;have p:=F m (by rw[<-o];simp);refine⟨rfl,_,⟨m,rfl,p.wf,p.deep,rfl⟩,λS I=>⟨rfl,m,rfl,p.wf,p.deep,λU J=>?_⟩⟩;rw[p.bar];exact H _ _ ⟨q++[m],b,_,rfl,by simpa using o,rfl,(g.trans I).trans J⟩
 .rintro τ G ⟨q,b,y,e,o,rfl,g⟩
  exact E ⟨ms,z⟩ _ g
theorem PK(T:TopD K mg "hall_shares" Kf uD)(d:aC P w K mg base 12 "check_hall" x9 (aA mg 1 D4))(b:aC P w K mg base 11 "name_shares" yi (aA mg 1 Ei)):aC P w K mg base 13 "hall_shares" uD (aA mg 1 zV):=by
 refine cg T WX λo E s F nd=>⟨_,(aF (f7 (dL d o s (aa (vr 0) ah)))
  (aG (a_ (gQ none (own:=[κk]) (aw:=[]) (ix:=[]) rfl (cz (vr 0)) (λc=>(pG 0 (η:([κk]:Ap).Nodup))) (λc=>(dL b o nD (aa (vr 0) ah))))))),λds A R h hl=>?_⟩
 obtain⟨x,rfl,t,p,n⟩:=h;have I:(1000:Nat)<=sizeLine:=δ
 refine⟨rfl,x,rfl,t,λ⟨ms,q⟩ r k=>?_,λu r k=>n u _ k⟩;have v:=p ms q;clear p;obtain⟨rfl,h1,G,z⟩:=q;refine Aj (λrest ys A'=>∃(i a:Fm) (ts:Dx),rest=a.map enc/\i++a=ms/\ys=ts.map D.ref/\TabsAt A' ts (i.map aI)/\Gr r A') ?_ ?_ ?_ ?_ _ _ _ ⟨[],ms,[],rfl,rfl,rfl,trivial,Gr.refl⟩
 .intro _ _ _ _
  trivial
 .rintro rest ys A' ⟨i,a,ts,_,e,rfl,j,_⟩
  have l1:=j.len;have l2:=bM List.length e;rw[eE] at l2;rw[aM] at l1 ⊢;omega
 .rintro y rest ys A' ⟨i,a,ts,e,f,rfl,j,g⟩
  cases a with
  |nil=>cases e
  |cons m a=>
   cases e;refine⟨[enc m],rfl,λQ B=>⟨rfl,m,rfl,z m (by rw[<-f];simp),λH n l h2 l2=>B _ _ ⟨i++[m],a,ts++[n],rfl,by simpa using f,θ,?_,g.trans l⟩⟩⟩;rw[c_];exact TabsAt.snoc (.inl h2) (j.gr l)
 .rintro ys A' ⟨i,a,ts,e,f,rfl,j,g⟩
  cases a with
  |cons _ _=>cases e
  |nil=>
   have f:i=ms:=by simpa using f
   subst f;have l:=(k.trans g).trans (Gr.push (T:=[C.lst (ts.map D.ref)]));exact v _ _ l ⟨ts,aN,j.gr Gr.push⟩ (k.trans g).len
def lS(Ts:Bz)(a b:Str):Prop:=∃T∈Ts,a∈af T/\b∈af T
inductive dQ(Ts:Bz):Str->Str->Prop
 |refl (a:Str):dQ Ts a a
 |step {a b c:Str}:dQ Ts a b->lS Ts b c->dQ Ts a c
theorem lS.symm{Ts:Bz}{a b:Str}(h:lS Ts a b):lS Ts b a:=by
 obtain⟨T,h1,h2,c⟩:=h;exact⟨T,h1,c,h2⟩
theorem dQ.trans{Ts:Bz}{a b c:Str}(h:dQ Ts a b)(k:dQ Ts b c):dQ Ts a c:=by
 induction k with
 |refl=>exact h
 |step _ e d=>exact .step d e
theorem dQ.symm{Ts:Bz}{a b:Str}(h:dQ Ts a b):dQ Ts b a:=by
 induction h with
 |refl=>exact .refl _
 |step _ e c=>exact(dQ.step (.refl _) e.symm).trans c
theorem MF{Ts:Bz}{a b:Str}:lS Ts a b↔∃s∈ff Ts a,s.2.2=b:=by
 constructor
 .rintro ⟨T,c,h1,h2⟩
  obtain⟨i,hi,e⟩:=jW c;exact⟨(i,a,b),oX.mpr ⟨T,by rw[aS hi,e],h1,rfl,h2⟩,rfl⟩
 .rintro ⟨s,d,rfl⟩
  obtain⟨T,h1,h2,g,f⟩:=oX.mp d;exact⟨T,cF h1,h2,f⟩
inductive jC(Ts:Bz):Str->List bC->Str->Prop
 |nil (a:Str):jC Ts a [] a
 |snoc {a b:Str} {l:List bC} {s:bC}:jC Ts a l s.2.1->eO Ts s->s.2.2=b->jC Ts a (l++[s]) b
theorem jC.ri{Ts:Bz}{a b:Str}{l:List bC}(h:jC Ts a l b):dQ Ts a b:=by
 induction h with
 |nil=>exact .refl _
 |snoc _ c e d=>
  obtain⟨T,h1,h2,f⟩:=c;exact .step d ⟨T,cF h1,h2,by rw[<-e];exact f⟩
theorem Gx{Ts:Bz}{a:Str}:∀(f:List bC) (P:aU),(∀s∈f,eO Ts s/\s.2.1∈au P)->(∀p∈P,jC Ts a p.2 p.1)->∀p∈f.foldl cP P,jC Ts a p.2 p.1
 |[],P,_,h=>h
 |s::f,P,b,h=>by
  obtain⟨d,e⟩:=b s (bw ..);refine Gx f (cP P s) (λx c=>⟨(b x (bq _ c)).1,(sH P s _).mpr (.inl (b x (bq _ c)).2)⟩) λp hp=>?_;unfold cP at hp;split at hp
  .exact h p hp
  .rcases bR.mp hp with hp|hp
   .exact h p hp
   .rw[bS.mp hp]
    exact .snoc (h _ (jM e)) d rfl
theorem XA{Ts:Bz}{n:Str}{s:bC}(h:s∈ff Ts n):eO Ts s/\s.2.1=n:=by
 obtain⟨T,h1,h2,a,b⟩:=oX.mp h;exact⟨⟨T,h1,by rw[a];exact h2,b⟩,a⟩
theorem EK{Ts:Bz}{a:Str}:∀(f i:Nat) (P:aU),(∀p∈P,jC Ts a p.2 p.1)->∀p∈eS Ts f i P,jC Ts a p.2 p.1
 |0,i,P,h=>h
 |f+1,i,P,h=>by
  cases e:P[i]? with
  |none=>
   have:eS Ts (f+1) i P=P:=by
    show(match P[i]? with|some p=>eS Ts f (i+1) ((ff Ts p.1).foldl cP P)|none=>P)=_;rw[e]
   rw[this];exact h
  |some c=>
   rw[sL e];refine EK f (i+1) _ (Gx _ _ (λs b=>?_) h);obtain⟨h1,h2⟩:=XA b;exact⟨h1,by rw[h2];exact cZ (cF e)⟩
theorem EM{Ts:Bz}{NN:Ap}(ar:dw Ts NN):∀(f i:Nat) (P:aU),gy P NN->13<=f+i->(∀j,j<i->∀p,P[j]?=some p->∀b,lS Ts p.1 b->b∈au P)->∀p∈eS Ts f i P,∀b,lS Ts p.1 b->b∈au (eS Ts f i P)
 |0,i,P,l,r,hc=>λp a b c=>by
  have hl:=d7 l.len ar.nn;obtain⟨j,g,e⟩:=jW (show p∈P from a);exact hc j ω p (by rw[aS g,e]) b c
 |f+1,i,P,l,r,hc=>by
  cases e:P[i]? with
  |none=>
   have t:eS Ts (f+1) i P=P:=by
    show(match P[i]? with|some p=>eS Ts f (i+1) ((ff Ts p.1).foldl cP P)|none=>P)=_;rw[e]
   rw[t];intro p a b c;obtain⟨j,g,m⟩:=jW a;have:P.length<=i:=List.getElem?_eq_none_iff.mp e;exact hc j ω p (by rw[aS g,m]) b c
  |some d=>
   rw[sL e];obtain⟨X,eX⟩:=wG (ff Ts d.1) P;have n:d.1∈au P:=cZ (cF e);have o:=(bK.mp e).1;have key:∀(A:List bC) (Q:aU),(∀s∈A,s∈ff Ts d.1)->gy Q NN->d.1∈au Q->gy (A.foldl cP Q) NN:=by
    intro A;induction A with
    |nil=>intro Q _ h _;exact h
    |cons s A u=>
     intro Q k v a;obtain⟨T,w,_,m,y⟩:=oX.mp (k s (bw ..));exact u _ (λx z=>k x (bq _ z)) (v.add (by rw[m];exact a) (ar.sub T (cF w) _ y)) ((sH Q s d.1).mpr (.inl a))
   refine EM ar f (i+1) _ (key _ _ (λs h=>h) l n) ω λj g p a b c=>?_;rw[Ba];by_cases q:j<i
   .rw[eX,iG ω] at a
    exact .inl (hc j q p a b c)
   .have:j=i:=ω
    subst this;rw[eX,iG o,e] at a;cases a;obtain⟨s,k,rfl⟩:=MF.mp c;exact .inr (cZ k)
theorem yv{Ts:Bz}{n:Str}:∀p∈aH Ts n,jC Ts n p.2 p.1:=EK 14 0 _ λp a=>by
 have:p=(n,[]):=by simpa using a
 rw[this];exact .nil _
theorem iO{Ts:Bz}{NN:Ap}(ar:dw Ts NN){n:Str}(c:n∈NN){m:Str}:m∈au (aH Ts n)↔dQ Ts n m:=by
 constructor
 .intro h
  obtain⟨p,a,rfl⟩:=aP.mp h;exact(yv p a).ri
 .intro h
  have h0:gy [(n,[])] NN:=⟨by simp[au],λm d=>by
   have:m=n:=by simpa[au] using d
   rw[this];exact c,λp a=>by
   have:p=(n,[]):=by simpa using a
   rw[this];simp⟩
  have b:=EM ar 14 0 [(n,[])] h0 ω λj g=>by omega
  induction h with
  |refl=>exact(iw ar c).2.1
  |step _ e f=>
   obtain⟨p,a,rfl⟩:=aP.mp f;exact b p a _ e
theorem GP{Ts:Bz}{NN:Ap}(ar:dw Ts NN):∀(ns:Ap) (j:List aU),(∀n∈ns,n∈NN)->(∀P∈j,∃n∈NN,P=aH Ts n)->j.Pairwise (λP Q=>∀m,m∈au P->m∉au Q)->(ns.foldl (dz Ts) j).Pairwise (λP Q=>∀m,m∈au P->m∉au Q)
 |[],j,_,_,h=>h
 |n::ns,j,f,e,h=>by
  have b:=f n (bw ..);refine GP ar ns (dz Ts j n) (λm d=>f m (bq _ d)) (λP hP=>?_) ?_
  .unfold dz at hP
   split at hP
   .exact e P hP
   .rcases bR.mp hP with hP|hP
    .exact e P hP
    .exact⟨n,b,bS.mp hP⟩
  .unfold dz
   split
   .exact h
   .rename_i c
    rw[List.pairwise_append];refine⟨h,θ,λP hP Q g m d a=>?_⟩;rw[bS.mp g] at a;obtain⟨k,i,rfl⟩:=e P hP;refine c (fG.mpr ⟨_,hP,?_⟩);rw[iO ar i] at d ⊢;rw[iO ar b] at a;exact d.trans a.symm
theorem oJ{Ts:Bz}{NN:Ap}(ar:dw Ts NN):(bg Ts).Pairwise (λP Q=>∀m,m∈au P->m∉au Q):=
 GP ar _ [] (λm a=>by
  obtain⟨T,h1,h2⟩:=fG.mp a;exact ar.sub T h1 m h2) (λP h=>by cases h) Pairwise.nil
theorem BR{n:Str}:∀(f:List aU) (acc:List bC) (P:aU),f.Pairwise (λP Q=>∀m,m∈au P->m∉au Q)->P∈f->n∈au P->f.foldl (λacc P=>if n∈au P then cX P n else acc) acc=cX P n
 |[],acc,P,_,h,_=>by cases h
 |Q::f,acc,P,hd,hP,a=>by
  obtain⟨h1,h2⟩:=iC.mp hd;rw[iF];rcases bx.mp hP with rfl|hP
  .rw[aB a]
   have:∀(f:List aU) (acc:List bC),(∀Q∈f,n∉au Q)->f.foldl (λacc P=>if n∈au P then cX P n else acc) acc=acc:=by
    intro f;induction f with
    |nil=>intro acc _;rfl
    |cons Q f c=>
     intro acc h;rw[iF,av (h Q (bw ..))];exact c acc λd b=>h d (bq _ b)
   exact this f _ λQ e=>h1 Q e n a
  .exact BR f _ P h2 hP a
structure Cs(Ts:Bz)(w:Str->Rat):Prop where
 pos:∀n,0<w n
 eq:∀T∈Ts,∀a∈af T,∀b∈af T,w a*aE T b=w b*aE T a
theorem eY{x:Rat}(h:0<x):x≠0:=λe=>by rw[e] at h;exact absurd h δ
theorem K_{Ts:Bz}{w:Str->Rat}(b:∀T∈Ts,jm T)(h:Cs Ts w){s:bC}(c:eO Ts s):cB Ts s*w s.2.1=w s.2.2:=by
 obtain⟨T,h1,h2,d⟩:=c;have a:=cF h1;have e:=h.eq T a _ h2 _ d;have f:=eY (mD (b T a) h2).pos;unfold cB;rw[jR h1,jR h1];grind
theorem Ao(Ts:Bz)(a:List bC):∀b:List bC,dH Ts (a++b)=dH Ts a*dH Ts b:=by
 have key:∀(b:List bC) (x:Rat),b.foldl (λx s=>x*cB Ts s) x=x*b.foldl (λx s=>x*cB Ts s) 1:=by
  intro b;induction b with
  |nil=>intro x;simp[Rat.mul_one]
  |cons s b c=>
   intro x;rw[iF,iF,c (x*cB Ts s),c (1*cB Ts s),Rat.one_mul,Rat.mul_assoc]
 intro b;unfold dH;rw[nV,key]
theorem vY{Ts:Bz}{w:Str->Rat}(c:∀T∈Ts,jm T)(h:Cs Ts w){a b:Str}{l:List bC}(hc:jC Ts a l b):dH Ts l*w a=w b:=by
 induction hc with
 |nil=>exact Rat.one_mul _
 |snoc hc d e f=>
  rw[qy,<-e,<-K_ c h d,<-f];grind
theorem As{Ts:Bz}(a:∀T∈Ts,jm T):∀(l:List bC),(∀s∈l,eO Ts s)->dH Ts (bwd l)*dH Ts l=1
 |[],_=>by show(1:Rat)*1=1;exact Rat.one_mul _
 |s::l,b=>by
  have h:=As a l λx d=>b x (bq _ d);have e:bwd (s::l)=bwd l++[(s.1,s.2.2,s.2.1)]:=by
   unfold bwd;simp
  have f:dH Ts (s::l)=cB Ts s*dH Ts l:=by
   rw[show s::l=[s]++l from rfl,Ao];congr 1;show(1:Rat)*cB Ts s=cB Ts s;exact Rat.one_mul _
  obtain⟨T,h1,h2,g⟩:=b s (bw ..);have c:=a T (cF h1);have p2:=eY (mD c h2).pos;have i:=eY (mD c g).pos;have j:cB Ts (s.1,s.2.2,s.2.1)*cB Ts s=1:=by
   unfold cB;simp only[jR h1];grind
  rw[e,qy,f];grind
theorem JB{Ts:Bz}{NN:Ap}(ar:dw Ts NN){w:Str->Rat}(h:Cs Ts w):gR Ts=none:=by
 unfold gR;rw[nS];intro x g;obtain⟨s,m,rfl⟩:=aP.mp g;obtain⟨T,h1,h2,l⟩:=Ai m;have i:=cF h1;have c:=(xJ (ar.tok T i).ne).1;have f:eO Ts s:=⟨T,h1,by rw[h2];exact c,l⟩;have n1:s.2.1∈fk (bg Ts):=tO ar i (by rw[h2];exact c);obtain⟨P,j,b⟩:=fG.mp n1;obtain⟨k,n,_,rfl⟩:=gB ar j;have a:s.2.2∈au (aH Ts k):=by
  rw[iO ar n] at b ⊢;exact .step b ⟨T,i,by rw[h2];exact c,l⟩
 have d:=oJ ar;have l1:gp (bg Ts) s.2.1=cX (aH Ts k) s.2.1:=BR _ _ _ d j b;have l2:gp (bg Ts) s.2.2=cX (aH Ts k) s.2.2:=BR _ _ _ d j a;have o:=vY ar.tok h (yv _ (jM b));have p:=vY ar.tok h (yv _ (jM a));have q:=As ar.tok (cX (aH Ts k) s.2.2) (uI _ (jM a));have r:=K_ ar.tok h f;simp only at o p;have e:dH Ts (je Ts s)=1:=by
  unfold je;rw[l1,l2,Ao,qy];have t:=eY (h.pos k);have u:=eY (h.pos s.2.2);have v:=eY (h.pos s.2.1);grind
 simp[e]
theorem Uk{Ts:Bz}{NN:Ap}(ar:dw Ts NN)(h:gR Ts=none):∃w,Cs Ts w:=by
 have pos:∀n,0<dH Ts (gp (bg Ts) n):=λn=>(Aq ar.tok (qS ar (bg Ts) n λP h=>h).1).1;refine⟨λn=>dH Ts (gp (bg Ts) n),pos,λT g a j b k=>?_⟩;obtain⟨i,hi,e⟩:=jW g;have c:Ts[i]?=some T:=by rw[aS hi,e]
 have d:=(xJ (ar.tok T g).ne).1;have key:∀o∈af T,dH Ts (gp (bg Ts) o)*aE T (jN T)=dH Ts (gp (bg Ts) (jN T))*aE T o:=λo l=>by
  have m:(i,jN T,o)∈ki Ts:=by
   unfold ki;exact fG.mpr ⟨(T,i),rG.mpr c,aP.mpr ⟨o,l,rfl⟩⟩
  unfold gR at h;rw[nS] at h;have f:=h _ (cZ m);simp at f;unfold je at f;rw[Ao,qy] at f;have q:=As ar.tok (gp (bg Ts) o) (qS ar (bg Ts) o λP h=>h).1;have p:=eY (mD (ar.tok T g) d).pos;have es:cB Ts (i,jN T,o)=aE T o/aE T (jN T):=by
   unfold cB;simp only[jR c]
  rw[es] at f;simp only at f;grind
 have r:=key a j;have s:=key b k;have p:=eY (mD (ar.tok T g) d).pos;grind
noncomputable def tU(d:D):eB.α:=match d with
 |.tup (.str n::_)=>n.cps.toList
 |_=>[]
theorem GS:∀{Gs:List aU} {NN:Ap},(∀P∈Gs,∃n∈au P,n∈NN)->Gs.Pairwise (λP Q=>∀m,m∈au P->m∉au Q)->Gs.length<=NN.length:=by
 intro Gs NN h hd;have:∃a:Ap,a.length=Gs.length/\a.Nodup/\(∀x∈a,x∈NN)/\∀x∈a,∃P∈Gs,x∈au P:=by
  induction Gs with
  |nil=>exact⟨[],rfl,pX,(λ_ h=>by cases h),(λ_ h=>by cases h)⟩
  |cons P Gs e=>
   obtain⟨f,g⟩:=iC.mp hd;obtain⟨a,l,j,k,d⟩:=e (λQ b=>h Q (bq _ b)) g;obtain⟨n,n1,n2⟩:=h P (bw ..);refine⟨n::a,by simp[l],kJ.mpr ⟨λi=>?_,j⟩,λx hx=>?_,λx hx=>?_⟩
   .obtain⟨Q,b,c⟩:=d n i
    exact f Q b n n1 c
   .rcases bx.mp hx with rfl|hx
    .exact n2
    .exact k x hx
   .rcases bx.mp hx with rfl|hx
    .exact⟨P,bw ..,n1⟩
    .obtain⟨Q,b,c⟩:=d x hx
     exact⟨Q,bq _ b,c⟩
 obtain⟨a,l,j,k,_⟩:=this;have:=iu a NN j k;omega
theorem Lq{A B:Ar}{q:Nat}{c d:C}(h:A[q]?=some d)(g:Gr (A.set q c) B):Gr A (B.set q d):=by
 obtain⟨T,rfl⟩:=g;refine⟨T,?_⟩;have a:=bQ h;rw[zf _ _ (by simpa using a),set_set];congr 1;refine r9 λi=>?_;by_cases hi:i=q
 .rw[hi,eG a,h]
 .rw[eF (Ne.symm hi)]
noncomputable def bY(Ts:Bz)(P:aU)(n:Str):Rat:=dH Ts (cX P n)
def zU:Ct:=λds A R _=>∃r q Ts NN n A0,ds=[.ref r,.ref q]/\iV A0 r Ts/\Gr A0 A/\dw Ts NN/\n∈NN/\gZ A0.length A q (aH Ts n)/\∀A' p kvs,Gr A A'->A'[p]?=some (.dct kvs)->A.length<=p->Fb kvs (au (aH Ts n)) (bY Ts (aH Ts n))->R (.ref p) A'
theorem PD(T:TopD K mg "group_weights" Kd uC)(f:mg "dict"=none)(b:aC P w K mg base 4 "comes_to" uA (aA mg 2 zS)):aC P w K mg base 5 "group_weights" uC (aA mg 2 zU):=by
 refine cg T WW λO hR hx S nd=>⟨_,(aG (a_ (i7 (vV rfl) v_ f boot_dict (aa (wj (gQ none (own:=[κi]) (aw:=[κc,κp]) (ix:=[0,1]) rfl (s8 (vr 1)) (λc=>(pG 0 (η:([κi,κc,κp]:Ap).Nodup))) (λc=>(bP (aa (vr 0) (aa (dL b O nD (aa (vr 1) (aa (dX S (vr 2) (vr 0)) ah))) ah)))))) ah)))),λds A R h hl=>?_⟩;obtain⟨r,q,Ts,NN,n,U,rfl,V,W,ar,X,Y,k⟩:=h;obtain⟨Z,kvs,hd,hk,hv⟩:=Y;have hz:(1000:Nat)<=sizeLine:=δ
 obtain⟨i,_,_⟩:=iw ar X;have pl:=i.len;have Ih:=ar.nn;have t:(au (aH Ts n)).length=(aH Ts n).length:=by simp[au]
 have y:=bQ hd;refine .inl ⟨q,kvs,hd,λo=>?_⟩;generalize e:A.set q (.bI o kvs)=u;have j:u[q]?=some (.bI o kvs):=by rw[<-e];exact eG y
 have B:Gr U u:=by rw[<-e];exact W.set Z
 have E:=V.gr B;refine xm j ?_;have ek:(kvs.map λp=>keyOf p.1)=(au (aH Ts n)).map D.str:=by
  have:(kvs.map λp=>keyOf p.1)=(kvs.map (·.1)).map keyOf:=by rw[br];rfl
  rw[this,hk,br];rfl
 rw[ek];refine vZ (λd=>match d with|.str m=>iy (bY Ts (aH Ts n)) m|d=>d) _ [] u (λA' g=>g.get j) (λd F l s=>?_) (by simp[t];omega) (λl s=>?_)
 .obtain⟨m,x,rfl⟩:=aP.mp F
  obtain⟨a,la,ga,G⟩:=hv m x;have aq:a≠q:=λz=>by rw[z,hd] at G;cases G
  have H:u[a]?=some (.lst ((cX (aH Ts n) m).map cR)):=by
   rw[<-e,eF (Ne.symm aq)];exact G
  refine⟨[.str m],rfl,λQ hQ=>?_⟩;refine BE (s.get j) rfl ga ?_;have pm:=jM x;have I:=i.pl _ pm;refine⟨rfl,r,a,Ts,_,rfl,E.gr s,ar.tok,s.get H,λst J=>uI _ pm st J,by simp at I;omega,λA3 g3=>⟨(ω:2<=sizeLine),hQ _ g3⟩⟩
 have em:((au (aH Ts n)).map D.str).map (λd=>match d with|.str m=>iy (bY Ts (aH Ts n)) m|d=>d)=(au (aH Ts n)).map (iy (bY Ts (aH Ts n))):=by
  rw[br];rfl
 rw[fm,em];have v:Gr u (l++[C.lst ((au (aH Ts n)).map (iy (bY Ts (aH Ts n))))]):=s.trans Gr.push;have l2:A.length<=l.length:=by
  have:=s.len;rw[<-e,length_set] at this;exact this
 refine⟨kvs,v.get j,?_⟩;have M:Gr A ((l++[C.lst ((au (aH Ts n)).map (iy (bY Ts (aH Ts n))))]).set q (.dct kvs)):=Lq hd (by rw[e];exact v);have hL:((l++[C.lst ((au (aH Ts n)).map (iy (bY Ts (aH Ts n))))]).set q (.dct kvs))[l.length]?=some (.lst ((au (aH Ts n)).map (iy (bY Ts (aH Ts n))))):=by
  rw[eF ω];exact aN
 generalize ((l++[C.lst ((au (aH Ts n)).map (iy (bY Ts (aH Ts n))))]).set q (.dct kvs):Ar)=A3 at*
 refine AB hL (IG _ _) (by simp[t];omega) ?_;have N:(((au (aH Ts n)).map λm=>((Sum.inr m:Key),fq (bY Ts (aH Ts n) m))).map (·.1))=(au (aH Ts n)).map Sum.inr:=by
  rw[br];rfl
 have L:=Ij i.nd;have ep:pK ((au (aH Ts n)).map λm=>((Sum.inr m:Key),fq (bY Ts (aH Ts n) m)))=(au (aH Ts n)).map λm=>((Sum.inr m:Key),fq (bY Ts (aH Ts n) m)):=by
  have:=I_ ((au (aH Ts n)).map λm=>((Sum.inr m:Key),fq (bY Ts (aH Ts n) m))) [] (by rw[fm,N];exact L);simpa[pK] using this
 rw[ep];exact k _ _ _ (M.trans Gr.push) aN M.len ⟨N,i.nd,λm x=>GO (λm=>fq (bY Ts (aH Ts n) m)) _ m x⟩
theorem Le(a:Str):¬strLt a a:=λh=>kP _ (show a.cps.toList<a.cps.toList from h)
theorem XD{a b:Str}(h:strLt a b):¬strLt b a:=λk=>kP _ (vv (show a.cps.toList<b.cps.toList from h) (show b.cps.toList<a.cps.toList from k))
theorem Ly{α:Type}{r:α->α->Prop}(as:∀a b,r a b->¬r b a):∀{xs ys:List α},xs.Pairwise r->ys.Pairwise r->(∀x,x∈xs↔x∈ys)->xs=ys
 |[],[],_,_,_=>rfl
 |[],y::ys,_,_,h=>by have:=(h y).mpr (bw ..);cases this
 |x::xs,[],_,_,h=>by have:=(h x).mp (bw ..);cases this
 |x::xs,y::ys,g,i,h=>by
  obtain⟨d,j⟩:=iC.mp g;obtain⟨f,l⟩:=iC.mp i;have e:x=y:=by
   rcases bx.mp ((h x).mp (bw ..)) with e|m1
   .exact e
   rcases bx.mp ((h y).mpr (bw ..)) with e|m2
   .exact e.symm
   exact absurd (d y m2) (as _ _ (f x m1))
  subst e;have c:∀z,¬r z z:=λz k=>as _ _ k k;rw[Ly as j l λz=>⟨λm=>?_,λm=>?_⟩]
  .rcases bx.mp ((h z).mp (bq _ m)) with rfl|k
   .exact absurd (d _ m) (c _)
   .exact k
  .rcases bx.mp ((h z).mpr (bq _ m)) with rfl|k
   .exact absurd (f _ m) (c _)
   .exact k
noncomputable def jU(ns:Ap):Ap:=open Classical in if h:∃ys:Ap,ys.Pairwise strLt/\∀x,x∈ys↔x∈ns then Classical.choose h else []
theorem yV{ns ys:Ap}(h1:ys.Pairwise strLt)(h2:∀x,x∈ys↔x∈ns):jU ns=ys:=by
 have h:∃ys:Ap,ys.Pairwise strLt/\∀x,x∈ys↔x∈ns:=⟨ys,h1,h2⟩;have e:jU ns=Classical.choose h:=by unfold jU;rw[dif_pos h]
 obtain⟨a,b⟩:=nK h;rw[e];exact Ly (λ_ _=>XD) a h1 λx=>by rw[b,h2]
noncomputable def iQ(Ts:Bz)(P:aU):List (Str×Int):=(jU (au P)).zip (lw ((jU (au P)).map (bY Ts P)))
noncomputable def pO(Ts:Bz):List (Str×Int):=(bg Ts).flatMap (iQ Ts)
def z3:Ct:=λds A R E=>∃x NN,ds=[x]/\(∃ms,gM x ms)/\(∀n∈NN,Nm n)/\(∀ms,gM x ms->dw (ms.map aI) NN/\(gR (ms.map aI)=none->(∀P∈bg (ms.map aI),∀n∈au P,kT (bY (ms.map aI) P n))/\∀A' rs,Gr A A'->rs.Perm (pO (ms.map aI))->(rs.map (·.1)).Pairwise strLt->R (dY rs) A')/\(gR (ms.map aI)≠none->∀A',Gr A A'->E "Never" A'))/\((¬∃ms,gM x ms)->∀A',Gr A A'->E "NoHall" A')
abbrev yF:KeyOrd:=q_ eB (q_ wZ u0)
noncomputable def uP:D->yF.α
 |.tup [.str n,.int a]=>(n.cps.toList,a,())
 |_=>([],(0:Int),())
theorem rw_ltU(p q:Str×Int):ltQ (toQ (aR p)) (toQ (aR q))=some (yF.blt (uP (aR p)) (uP (aR q))):=
 S_ (O:=q_ wZ u0) (S8 (O:=u0) S9)
theorem rw_okU{p:Str×Int}(h:Nm p.1):fS (aR p)=true/\(toQ (aR p)).canLay0=true/\(toQ (aR p)).depth<=60/\∃x r,toQ (aR p)=.tuple (.str x::r):=by
 have h1:=h.ok;refine⟨rfl,?_,?_,_,_,rfl⟩
 .simp[aR,toQ,bF,canLay0,canLayAll0] at h1 ⊢
  exact h1
 .simp[aR,toQ,bF,PyData.depth,depthAll]
theorem EC:∀{ds:Bi},(∀d∈ds,∃p,d=aR p)->∃rs:List (Str×Int),ds=rs.map aR
 |[],_=>⟨[],rfl⟩
 |d::ds,h=>by
  obtain⟨rs,rfl⟩:=EC (ds:=ds) λx a=>h x (bq _ a);obtain⟨p,rfl⟩:=h d (bw ..);exact⟨p::rs,rfl⟩
theorem Vj{rs b:List (Str×Int)}(h:(rs.map aR).Perm (b.map aR)):rs.Perm b:=by
 have inv:∀l:List (Str×Int),(l.map aR).map (λd=>match d with|.tup [.str n,.int a]=>(n,a)|_=>(("":Str),(0:Int)))=l:=λl=>by
  rw[br];have:((λd=>match d with|D.tup [.str n,.int a]=>(n,a)|_=>(("":Str),(0:Int)))∘aR)=id:=by
   funext p;rfl
  rw[this,map_id]
 have:=h.map (λd=>match d with|.tup [.str n,.int a]=>(n,a)|_=>(("":Str),(0:Int)));rw[inv,inv] at this;exact this
theorem Lo{Ts:Bz}{P:aU}(h:∃ys:Ap,ys.Pairwise strLt/\∀x,x∈ys↔x∈au P):(iQ Ts P).map (·.1)=jU (au P)/\(jU (au P)).Pairwise strLt/\∀x,x∈jU (au P)↔x∈au P:=by
 obtain⟨ys,h1,h2⟩:=h;rw[yV h1 h2];refine⟨?_,h1,h2⟩;unfold iQ;rw[yV h1 h2];exact List.map_fst_zip (by rw[H8,aM];exact aJ _)
theorem YH(ns:Ap):(jU ns).length<=ns.length:=by
 by_cases h:∃ys:Ap,ys.Pairwise strLt/\∀x,x∈ys↔x∈ns
 .obtain⟨ys,h1,h2⟩:=h
  rw[yV h1 h2];refine iu ys ns (Pairwise.imp (S:=λa b:Str=>a≠b) (λ {a b} c (z:a=b)=>Le b (by rw[z] at c;exact c)) h1) λx d=>(h2 x).mp d
 .have:jU ns=[]:=by unfold jU;rw[dif_neg h]
  rw[this];exact b_ _
theorem Ln(Ts:Bz)(P:aU):(iQ Ts P).length<=(au P).length:=by
 have:=YH (au P);unfold iQ;rw[length_zip];omega
theorem Gp{f:aU->List (Str×Int)}{k:Nat}:∀{l:List aU},(∀P∈l,(f P).length<=k)->(l.flatMap f).length<=k*l.length
 |[],_=>by simp
 |P::l,h=>by
  have h1:=Gp (l:=l) λQ a=>h Q (bq _ a);have h2:=h P (bw ..);rw[nU,eE,iA,Nat.mul_succ];omega
theorem yP{Ts:Bz}:∀{Gs:List aU},Gs.Pairwise (λP Q=>∀m,m∈au P->m∉au Q)->(∀P∈Gs,∃ys:Ap,ys.Pairwise strLt/\∀x,x∈ys↔x∈au P)->((Gs.flatMap (iQ Ts)).map (·.1)).Nodup/\∀x,x∈(Gs.flatMap (iQ Ts)).map (·.1)↔x∈fk Gs
 |[],_,_=>⟨pX,λx=>by simp[fk]⟩
 |P::Gs,hd,e=>by
  obtain⟨f,g⟩:=iC.mp hd;obtain⟨i1,i2⟩:=yP (Ts:=Ts) g λQ d=>e Q (bq _ d);obtain⟨n1,n2,n3⟩:=Lo (Ts:=Ts) (e P (bw ..));rw[nU,c_,n1];constructor
  .rw[jX]
   refine⟨Pairwise.imp (S:=λa b:Str=>a≠b) (λ {a b} c (z:a=b)=>Le b (by rw[z] at c;exact c)) n2,i1,λa h b i z=>?_⟩;subst z;obtain⟨Q,d,j⟩:=fG.mp (show a∈Gs.flatMap au from (i2 a).mp i);exact f Q d a ((n3 a).mp h) j
  .intro x
   rw[bR,n3,i2];simp[fk]
theorem Wj{rs:List (Str×Int)}(f:(rs.map (·.1)).Nodup)(e:(rs.map aR).Pairwise (λa b=>yF.kle (uP a) (uP b))):(rs.map (·.1)).Pairwise strLt:=by
 rw[jy] at e;have d:rs.Pairwise λa b=>a.1≠b.1:=jy.mp f;refine jy.mpr ((e.and d).imp ?_);rintro a b ⟨g,h⟩;have g:(eB.blt b.1.cps.toList a.1.cps.toList||(!eB.blt a.1.cps.toList b.1.cps.toList&&(q_ wZ u0).blt (b.2,()) (a.2,())))=false:=g;rw[Bool.or_eq_false_iff] at g;have i:eB.blt a.1.cps.toList b.1.cps.toList=true:=by
  cases c:eB.blt a.1.cps.toList b.1.cps.toList with
  |true=>rfl
  |false=>exact absurd (CM (eB.total _ _ c g.1)) h
 exact show a.1.cps.toList<b.1.cps.toList from fu i
theorem Qk(T:TopD K mg "together" KC yt)(k:mg "sorted"=none)(s:mg "tuple"=none)(g:aC P w K mg base 13 "hall_shares" uD (aA mg 1 zV))(a:aC P w K mg base 6 "check_no_ring" uz (aA mg 1 zY))(l:aC P w K mg base 3 "groups" qW (aA mg 1 vK))(b:aC P w K mg base 3 "least_weights" yg (aA mg 1 Ec))(c:aC P w K mg base 5 "group_weights" uC (aA mg 2 zU)):aC P w K mg base 14 "together" yt (aA mg 1 z3):=by
 refine cg T Xd λM hR E hu nd=>⟨_,(aF (dS 1 nd (dL g M E (aa (vr 0) ah)))
  (aF (f7 (dL a M E (aa (vr 1) ah)))
  (aF (dS 2 nd (dO ah))
  (aF (d_ dP rfl (cz (dL l M E (aa (vr 1) ah))) (dG 3 nd) (aG (f7 (ig iD pZ rM TN NV (vr 2) (aa (dL b M E (aa (dL c M E (aa (vr 1) (aa (vr 3) ah))) ah)) ah)))))
  (aG (a_ (i7 sO sW s lO (aa (eW (E1 rfl hu) Fq k boot_sorted (aa (vr 2) ah)) ah)))))))),λds A R h hl=>?_⟩
 obtain⟨x,NN,rfl,hk,Bt,q1,q2⟩:=h;have hz:(1000:Nat)<=sizeLine:=δ
 refine⟨rfl,x,rfl,hk,λms hH A1 r Z hB l1=>?_,λF A1 Z=>q2 F _ Z⟩;obtain⟨ar,q4,q5⟩:=q1 ms hH;refine⟨rfl,r,_,NN,rfl,hB,ar,λe u g2=>?_,λe u g2=>q5 e _ (Z.trans g2)⟩;obtain⟨hF,q6⟩:=q4 e;have N:=hB.gr g2;clear q1 q2 q4 q5;generalize Q4:ms.map aI=Ts at*
 refine⟨b_ _,rfl,r,Ts,NN,rfl,N.gr Gr.push,ar,λA3 q3 g3 hG=>?_⟩;obtain⟨lq,gs,O,G⟩:=hG;have oW:=G.len;have H:(u++[C.lst []]).length=u.length+1:=θ
 rw[H] at G lq;have gl:(bg Ts).length<=12:=by
  have:=GS (Gs:=bg Ts) (NN:=NN) (λP hP=>?_) (oJ ar)
  .have:=ar.nn
   omega
  .obtain⟨n,F,_,rfl⟩:=gB ar hP
   exact⟨n,(iw ar F).2.1,F⟩
 have Bv:A3[u.length]?=some (.lst []):=g3.get aN;refine dB O ?_;refine dW (λrest τ A'=>∃(L f:Dx) (i:Nat) (x3:Option D),rest=f.map D.ref/\L++f=gs/\i=L.length/\τ=[some x,some (.ref r),some (.ref u.length),x3]/\A'[u.length]?=some (.lst ((((bg Ts).take i).flatMap (iQ Ts)).map aR))/\A'[q3]?=some (.lst (gs.map D.ref))/\fM (u.length+1) A' gs (bg Ts)/\Gr u A'/\(∀P∈(bg Ts).take i,∃ys:Ap,ys.Pairwise strLt/\∀x,x∈ys↔x∈au P)) ?_ ?_ ?_ _ _ _ ⟨[],gs,0,none,rfl,rfl,rfl,rfl,Bv,O,G,Gr.push.trans g3,λP h=>by simp at h⟩
 .rintro rest τ A' ⟨_,_,_,_,_,_,_,_,_,h,_⟩
  exact h
 .rintro v rest τ A4 ⟨L,f,i,x3,e1,o,hi,rfl,j,S,I,g4,y⟩ Nx hN
  cases f with
  |nil=>cases e1
  |cons t f=>
  cases e1;have hgt:gs[i]?=some t:=by rw[hi,<-o];simp
  obtain⟨Pg,U,wL⟩:=I.get hgt;have B:=cF U;obtain⟨n,F,_,AQ⟩:=gB ar B;subst AQ;obtain⟨qY,pin,_⟩:=iw ar F;refine⟨gn j,rfl,r,t,Ts,NN,n,u,rfl,N,g4,ar,F,wL.lo ω,λA5 p kvs g5 h5 l5 fb=>?_⟩;have Vx:=qY.len;have Ih:=ar.nn;have SR:(au (aH Ts n)).length=(aH Ts n).length:=by simp[au]
  refine⟨rfl,p,kvs,_,_,rfl,h5,fb,ω,(λz=>by rw[z] at pin;cases pin),λm hm=>hF _ B m hm,λA6 ys g6 y1 y2=>?_⟩;have eU:=yV y1 y2;have et:ys.zip (lw (ys.map (bY Ts (aH Ts n))))=iQ Ts (aH Ts n):=by
   unfold iQ;rw[eU]
  rw[et];have V:=g6.get (g5.get j);have W:((bg Ts).take (i+1))=(bg Ts).take i++[aH Ts n]:=by
   rw[rK,U];rfl
  have X:=(g4.trans g5).trans g6;have sz:((((bg Ts).take i).flatMap (iQ Ts)).map aR).length+((iQ Ts (aH Ts n)).map aR).length<=sizeLine:=by
   have b1:(((bg Ts).take i).flatMap (iQ Ts)).length<=12*((bg Ts).take i).length:=Gp λQ hQ=>by
    obtain⟨n',J,_,rfl⟩:=gB ar (vc hQ);have:=Ln Ts (aH Ts n');have:=(iw ar J).1.len;simp[au] at*
    omega
   have b2:=Ln Ts (aH Ts n);have b3:((bg Ts).take i).length<=12:=by rw[pT];omega
   rw[aM,aM];omega
  refine Pa V sz ?_;refine hN _ _ ⟨L++[t],f,i+1,_,rfl,by simpa using o,by simp[hi],rfl,?_,?_,?_,X.set (aJ _),λP hP=>?_⟩
  .rw[W,qf,c_]
   have:([aH Ts n].flatMap (iQ Ts))=iQ Ts (aH Ts n):=θ
   rw[this];exact eG (bQ V)
  .rw[eF ω]
   exact g6.get (g5.get S)
  .exact I.kE λq P hP=>(hP.gr (g5.trans g6)).set ω
  .rw[W] at hP
   rcases bR.mp hP with hP|hP
   .exact y P hP
   .rw[bS.mp hP]
    exact⟨ys,y1,y2⟩
 .rintro τ A4 ⟨L,f,i,x3,e1,o,hi,rfl,j,S,I,g4,y⟩
  cases f with
  |cons _ _=>cases e1
  |nil=>
  have o:L=gs:=by simpa using o
  have hil:i=(bg Ts).length:=by rw[hi,o,oW]
  rw[hil,vj (aJ _)] at j y;have j:A4[u.length]?=some (.lst ((pO Ts).map aR)):=j;obtain⟨t1,t2⟩:=yP (Ts:=Ts) (oJ ar) y;have Y:∀x∈(pO Ts).map (·.1),x∈NN:=λx E=>by
   obtain⟨Q,hQ,hq⟩:=fG.mp (show x∈(bg Ts).flatMap au from (t2 x).mp E);obtain⟨n',J,_,rfl⟩:=gB ar hQ;exact(iw ar J).1.sub x hq
  have xr:(pO Ts).length<=12:=by
   have:=iu _ NN t1 Y;have:=ar.nn;rw[aM] at*
   exact d7 (by assumption) (by assumption)
  refine Lb yF uP j (by rw[aM];omega) (λd hd=>?_) (λd hd e he=>?_) λes pe se=>?_
  .obtain⟨p,hp,rfl⟩:=aP.mp hd
   exact rw_okU (Bt _ (Y _ (cZ hp)))
  .obtain⟨p,hp,rfl⟩:=aP.mp hd
   obtain⟨p',qN,rfl⟩:=aP.mp he;exact rw_ltU p p'
  obtain⟨rs,rfl⟩:=EC (ds:=es) λd hd=>by
   obtain⟨p,_,rfl⟩:=aP.mp (pe.mem_iff.mp hd);exact⟨p,rfl⟩
  have pr:=Vj pe;refine uY aN ?_;exact q6 _ rs (((Z.trans g2).trans g4).trans Gr.push) pr (Wj ((pr.map (·.1)).nodup_iff.mpr t1) se)
noncomputable def fT(s:Str->Rat)(p:Str×Int):Rat:=(p.2:Rat)/s p.1
def Es:Ct:=λds A R E=>∃(q:Nat) (kvs:List (Key×D)) (ns:Ap) (s:Str->Rat) (t:Nat) (rows:List (Str×Int)),ds=[.ref q,.ref t]/\A[q]? =some (.dct kvs)/\Fb kvs ns s/\ns.length<=32/\(∀n∈ns,kT (s n))/\A[t]? =some (.lst (rows.map aR))/\(∀p∈rows,p.1∈ns/\Nm p.1/\1<=p.2/\p.2<=999999)/\
 (rows=[]->∀A' p,Gr A A'->A'[p]? =some (.lst [])->A.length<=p->R (.ref p) A')/\
 ∀p0 more,rows=p0::more->((∀p∈rows,fT s p0*s p.1=(p.2:Rat))->∀A' p,Gr A A'->A'[p]? =some (.lst (ns.map (iy λn=>fT s p0*s n)))->A.length<=p->R (.ref p) A')/\((¬∀p∈rows,fT s p0*s p.1=(p.2:Rat))->∀A',Gr A A'->E "Never" A')
theorem JD:∀{rows:List (Str×Int)},(∀p∈rows,Nm p.1)->gb (rows.map aR)=true/\canLayAll0 (bF (rows.map aR))=true
 |[],_=>⟨rfl,rfl⟩
 |p::rows,h=>by
  obtain⟨d,e,_,_⟩:=rw_okU (h p (bw ..));obtain⟨a,b⟩:=JD λx c=>h x (bq _ c);refine⟨by show(fS (aR p)&&gb (rows.map aR))=true;rw[d,a];rfl,?_⟩;simp[bF,canLayAll0,e,b]
theorem GB(i:Int):fq ((i:Int):Rat)=.tup [.int i,.int 1]:=by
 have h:rf ((i:Int):Rat)=(i,1):=by
  unfold rf;simp
 unfold fq;rw[h]
theorem Xk{s:Str->Rat}{p:Str×Int}(d:kT (s p.1))(h1:1<=p.2)(h2:p.2<=999999):0<fT s p/\(rf (fT s p)).1<=1152920351685342369153024/\(rf (fT s p)).2<=1152921504606846976:=by
 have pn:=cV d.pos;have f:=cj (s p.1);have c:(0:Rat)<(p.2:Rat):=by
  have:((0:Int):Rat)<(p.2:Rat):=Rat.intCast_lt_intCast.mpr ω;simpa using this
 have hpos:0<fT s p:=by
  unfold fT;rw[rW];exact mS c (vz.mpr d.pos)
 refine⟨hpos,?_⟩;have e:fT s p=((p.2*(rf (s p.1)).2:Int):Rat)/((rf (s p.1)).1:Rat):=by
  unfold fT;have h1:=gP (fW f);have h2:=gP (fW pn);conv=>lhs;rw[<-gc (s p.1)]
  rw[gv];grind
 rw[e];obtain⟨g,h⟩:=rj (a:=p.2*(rf (s p.1)).2) (b:=(rf (s p.1)).1) (dm ω f) pn;have m:p.2*(rf (s p.1)).2<=999999*1152921504606846976:=dc h2 d.den (dM f) δ;have n:=d.num;exact⟨ω,ω⟩
theorem Qf(T:TopD K mg "settled_group" Kw yo){r:Addr}(F:mg "Never"=some (.ref r))(G:excIn K r mG "ValueError.__new__"=true)(f:aC P w K mg base 3 "product" qX (aA mg 2 mZ))(u:aC P w K mg base 3 "quotient" uF (aA mg 2 (λds A R E=>∃a b c d:Int,ds=[.tup [.int a,.int b],.tup [.int c,.int d]]/\mZ [.tup [.int a,.int b],.tup [.int d,.int c]] A R E))):aC P w K mg base 4 "settled_group" yo (aA mg 2 Es):=by
 refine cg T Xa λhr hR hx I nd=>⟨_,(aF (cG (jS I (vr 1) (dO ah)) (aG (a_ (dO ah))) cJ)
  (aF (dS 2 nd (dL u hr hx (aa (bP (aa (dX I (dX I (vr 1) ao) ao) (aa ao ah))) (aa (dX I (vr 0) (dX I (dX I (vr 1) ao) ao)) ah))))
  (aF (d_ dP rfl (cz (vr 1)) (k8 rfl (fK (dG 3 nd) (fK (dG 4 nd) k9))) (aG (cG (jv I (dL f hr hx (aa (vr 2) (aa (dX I (vr 0) (vr 3)) ah))) (bP (aa (vr 4) (aa ao ah)))) (aG (oF hR rfl F G (aa cH ah))) cJ)))
  (aG (a_ (wj (gQ none (own:=[κi]) (aw:=["scale","weights"]) (ix:=[2,0]) rfl (s8 (vr 0)) (λc=>(pG 0 (η:([κi,"scale","weights"]:Ap).Nodup))) (λc=>(bP (aa (vr 0) (aa (dL f hr nD (aa (vr 1) (aa (dX I (vr 2) (vr 0)) ah))) ah))))))))))),λds A R h hl=>?_⟩
 obtain⟨q,kvs,ns,l,t,rows,rfl,hq,fb,n32,hF,ht,z,k0,k1⟩:=h;have hz:(1000:Nat)<=sizeLine:=δ
 obtain⟨VE,VF⟩:=JD λp hp=>(z p hp).2.1;refine⟨b_ _,Gb ht VE VF ?_⟩;cases rows with
 |nil=>exact⟨b_ _,k0 rfl _ _ (Gr.push.trans Gr.push) aN θ⟩
 |cons i k=>
 obtain⟨k2,k3⟩:=k1 i k rfl;clear k0 k1;refine cD (λc=>by cases c) (λ_=>?_);have O:=a4 (T:=[C.lst []]) ht;have Y:=a4 (T:=[C.lst []]) hq;have g1:Gr A (A++[C.lst []]):=Gr.push;generalize (A++[C.lst []]:Ar)=A1 at*
 obtain⟨r1,r2,r3,r4⟩:=z i (bw ..);have f0:=hF _ r1;have pn:=cV f0.pos;have pd:=cj (l i.1);have a0:d9 ((i::k).map aR) 0=some (aR i):=oj (j:=0) rfl;refine iN O a0 ⟨(ω:2<=sizeLine),iN O a0 ?_⟩;refine gC Y rfl (fb.get _ r1) ?_;have EH:(1152921504606846976:Int)<2 ^ 64:=δ
 have n1:=f0.num;have n2:=f0.den;have big:∀x:Int,x<=1329226666556920087987934156473284295655424->x<2 ^ 2000:=λx hx=>pU hx (by
  have:(1329226666556920087987934156473284295655424:Int)<=(4000000000000:Int) ^ 5*4000000000000:=δ
  exact pU this (Cj δ))
 refine⟨rfl,i.2,1,(rf (l i.1)).1,(rf (l i.1)).2,rfl,_,_,_,_,rfl,ω,δ,pd,pn,ω,ω,?_,λA2 g2=>?_⟩
 .refine big _ ?_
  have:i.2*(rf (l i.1)).2<=999999*1152921504606846976:=dc r4 n2 (dM pd) δ;omega
 have ec:((i.2:Rat)/((1:Int):Rat))*(((rf (l i.1)).2:Rat)/((rf (l i.1)).1:Rat))=fT l i:=by
  unfold fT;have h1:=gP (fW pd);have h2:=gP (fW pn);have h3:((1:Int):Rat)=1:=rfl;conv=>rhs;rw[<-gc (l i.1)]
  rw[h3];grind
 rw[ec];obtain⟨c1,c2,c3⟩:=Xk (s:=l) (p:=i) f0 r3 r4;generalize hc:fT l i=c at*
 have H:∀(n:Str) (A':Ar) (Q:DK) (EX:DX),n∈ns->(∀S,Gr A' S->Q (fq (c*l n)) S)->mZ [fq c,fq (l n)] A' Q EX:=λn A' Q EX hn hQ=>by
  have fn:=hF n hn;have m1:=cV fn.pos;have m2:=cj (l n);have m3:=fn.num;have m4:=fn.den;refine⟨_,_,_,_,rfl,cV c1,cj c,m1,m2,ω,ω,?_,λS g=>?_⟩
  .refine big _ ?_
   have:(rf c).1*(rf (l n)).1<=1152920351685342369153024*1152921504606846976:=dc c2 m3 (dM m1) δ;omega
  .rw[gc,gc]
   exact hQ _ g
 have Z:=g2.get Y;have wV:=g2.get O;refine dB wV ?_;have tL:=g1.trans g2;refine dW (λrest τ A'=>∃(W mo:List (Str×Int)) (x3 x4:Option D),rest=mo.map aR/\W++mo=i::k/\τ=[some (.ref q),some (.ref t),some (fq c),x3,x4]/\(∀p∈W,c*l p.1=(p.2:Rat))/\Gr A2 A') ?_ ?_ ?_ _ _ _ ⟨[],i::k,none,none,rfl,rfl,rfl,λ_ h=>(by cases h),Gr.refl⟩
 .rintro rest τ A' ⟨_,_,_,_,_,_,_,_,g⟩
  exact g.get wV
 .rintro v rest τ A3 ⟨W,mo,x3,x4,e,B,rfl,J,X⟩ Nx hN
  cases mo with
  |nil=>cases e
  |cons p mo=>
  cases e;have hp:p∈i::k:=by rw[<-B];simp
  obtain⟨pr,_,_,_⟩:=z p hp;refine⟨rfl,gC (X.get Z) rfl (fb.get _ pr) ⟨rfl,H p.1 A3 _ _ pr λA4 g4=>⟨(ω:2<=sizeLine),?_⟩⟩⟩;have e1:D.tup [.int p.2,.int 1]=fq ((p.2:Int):Rat):=(GB p.2).symm;rw[e1];refine xK ?_;refine cN (λc5=>?_) (λc5=>?_)
  .exact⟨(ω:1<=sizeLine),k3 (λhall=>c5 (hall p hp)) _ ((tL.trans X).trans g4)⟩
  .exact hN _ _ ⟨W++[p],mo,_,_,rfl,by simpa using B,rfl,λy hy=>by
    rcases bR.mp hy with h|h
    .exact J y h
    .rw[bS.mp h]
     exact c5,X.trans g4⟩
 .rintro τ A3 ⟨W,mo,x3,x4,e,B,rfl,J,X⟩
  cases mo with
  |cons _ _=>cases e
  |nil=>
  have B:W=i::k:=by simpa using B
  rw[B] at J;have k4:=k2 J;have U:=X.get Z;have hlt:=bQ U;have GH:=tL.trans X;refine .inl ⟨q,kvs,U,λo=>?_⟩;generalize V:A3.set q (.bI o kvs)=B1;have L:B1[q]?=some (.bI o kvs):=by rw[<-V];exact eG hlt
  refine xm L ?_;have ek:(kvs.map λp=>keyOf p.1)=ns.map D.str:=by
   have:(kvs.map λp=>keyOf p.1)=(kvs.map (·.1)).map keyOf:=by rw[br];rfl
   rw[this,fb.keys,br];rfl
  rw[ek];refine vZ (λd=>match d with|.str m=>iy (λn=>c*l n) m|d=>d) _ [] B1 (λA' g=>g.get L) (λd hd' B2 M=>?_) (by simp;omega) (λB2 M=>?_)
  .obtain⟨m,hm,rfl⟩:=aP.mp hd'
   refine⟨[.str m],rfl,λQ hQ=>?_⟩;refine BE (M.get L) rfl (fb.get m hm) ⟨rfl,H m B2 _ _ hm λB3 Qw=>⟨(ω:2<=sizeLine),hQ _ Qw⟩⟩
  have em:(ns.map D.str).map (λd=>match d with|.str m=>iy (λn=>c*l n) m|d=>d)=ns.map (iy λn=>c*l n):=by
   rw[br];rfl
  rw[fm,em];have N:Gr B1 (B2++[C.lst (ns.map (iy λn=>c*l n))]):=M.trans Gr.push;have l2:A3.length<=B2.length:=by
   have:=M.len;rw[<-V,length_set] at this;exact this
  refine⟨kvs,N.get L,?_⟩;have gF:=Lq U (by rw[V];exact N);refine k4 _ _ (GH.trans gF) ?_ (by have:=GH.len;omega);rw[eF ω];exact aN
def e_(rs:List (Str×Int))(P:aU):List (Str×Int):=rs.filter λp=>decide (p.1∈au P)
noncomputable def gf(Ts:Bz)(rs:List (Str×Int))(P:aU):List (Str×Rat):=match e_ rs P with
 |[]=>[]
 |p0::_=>(au P).map λn=>(n,fT (bY Ts P) p0*bY Ts P n)
noncomputable def nE(Ts:Bz)(rs:List (Str×Int)):List (Str×Rat):=(bg Ts).flatMap (gf Ts rs)
def bZ(p:Str×Rat):D:=.tup [.str p.1,fq p.2]
def qt(Ts:Bz)(rs:List (Str×Int)):Prop:=∀P∈bg Ts,∀p0 more,e_ rs P=p0::more->∀p∈e_ rs P,fT (bY Ts P) p0*bY Ts P p.1=(p.2:Rat)
theorem Xi{p:Str×Rat}(h:Nm p.1):fS (bZ p)=true/\(toQ (bZ p)).canLay0=true/\(toQ (bZ p)).depth<=60/\∃x r,toQ (bZ p)=.tuple (.str x::r):=by
 have h1:=h.ok;refine⟨rfl,?_,?_,_,_,rfl⟩
 .simp[bZ,fq,toQ,bF,canLay0,canLayAll0] at h1 ⊢
  exact h1
 .simp[bZ,fq,toQ,bF,PyData.depth,depthAll]
theorem Xg{a b:Str×Rat}(h:a.1=b.1->a=b):ltQ (toQ (bZ a)) (toQ (bZ b))=some (eB.blt (tU (bZ a)) (tU (bZ b))):=by
 show ltQ (.tuple [.str a.1,toQ (fq a.2)]) (.tuple [.str b.1,toQ (fq b.2)])=some (eB.blt a.1.cps.toList b.1.cps.toList);by_cases c:a.1=b.1
 .have e:=h c
  subst e;rw[ltQ,eB.irrefl,eV];have d:PyData.eqv (.str a.1) (.str a.1)=true:=by simp[PyData.eqv]
  rw[d];show eV [toQ (fq a.2)] [toQ (fq a.2)]=_;rw[eV];have f:PyData.eqv (toQ (fq a.2)) (toQ (fq a.2))=true:=by simp[fq,toQ,bF,PyData.eqv,eqvAll]
  rw[f];rfl
 .rw[ltQ,eV]
  have g:PyData.eqv (.str a.1) (.str b.1)=false:=by simpa[PyData.eqv] using c
  rw[g];show ltQ (.str a.1) (.str b.1)=_;rw[ltQ]
theorem ED:∀{ds:Bi},(∀d∈ds,∃p,d=bZ p)->∃rs:List (Str×Rat),ds=rs.map bZ
 |[],_=>⟨[],rfl⟩
 |d::ds,h=>by
  obtain⟨rs,rfl⟩:=ED (ds:=ds) λx a=>h x (bq _ a);obtain⟨p,rfl⟩:=h d (bw ..);exact⟨p::rs,rfl⟩
theorem Vk{rs c:List (Str×Rat)}(h:(rs.map bZ).Perm (c.map bZ)):rs.Perm c:=by
 have inv:∀l:List (Str×Rat),(l.map bZ).map (λd=>match d with|.tup [.str n,.tup [.int a,.int b]]=>(n,(a:Rat)/(b:Rat))|_=>(("":Str),(0:Rat)))=l:=λl=>by
  rw[br];have:((λd=>match d with|D.tup [.str n,.tup [.int a,.int b]]=>(n,(a:Rat)/(b:Rat))|_=>(("":Str),(0:Rat)))∘bZ)=id:=by
   funext p;show(p.1,((rf p.2).1:Rat)/((rf p.2).2:Rat))=p;rw[gc]
  rw[this,map_id]
 have:=h.map (λd=>match d with|.tup [.str n,.tup [.int a,.int b]]=>(n,(a:Rat)/(b:Rat))|_=>(("":Str),(0:Rat)));rw[inv,inv] at this;exact this
theorem KY(Ts:Bz)(rs:List (Str×Int))(P:aU):(gf Ts rs P).map (·.1)=if e_ rs P=[] then [] else au P:=by
 unfold gf;cases e_ rs P with
 |nil=>rfl
 |cons a m=>
  rw[av θ];show((au P).map _).map _=_;rw[br];exact map_id _
theorem KZ{Ts:Bz}{rs:List (Str×Int)}:∀{Gs:List aU},Gs.Pairwise (λP Q=>∀m,m∈au P->m∉au Q)->(∀P∈Gs,(au P).Nodup)->((Gs.flatMap (gf Ts rs)).map (·.1)).Nodup/\∀x,x∈(Gs.flatMap (gf Ts rs)).map (·.1)->x∈fk Gs
 |[],_,_=>⟨pX,λx h=>by simp at h⟩
 |P::Gs,hd,e=>by
  obtain⟨f,g⟩:=iC.mp hd;obtain⟨i1,i2⟩:=KZ (Ts:=Ts) (rs:=rs) g λQ c=>e Q (bq _ c);have n1:=KY Ts rs P;have sub:∀x∈(gf Ts rs P).map (·.1),x∈au P:=λx hx=>by
   rw[n1] at hx;split at hx
   .cases hx
   .exact hx
  rw[nU,c_];constructor
  .rw[jX]
   refine⟨?_,i1,λa i b j z=>?_⟩
   .rw[n1]
    split
    .exact pX
    .exact e P (bw ..)
   .subst z
    obtain⟨Q,c,d⟩:=fG.mp (show a∈Gs.flatMap au from i2 a j);exact f Q c a (sub a i) d
  .intro x hx
   rcases bR.mp hx with hx|hx
   .exact fG.mpr ⟨P,bw ..,sub x hx⟩
   .obtain⟨Q,c,d⟩:=fG.mp (show x∈Gs.flatMap au from i2 x hx)
    exact fG.mpr ⟨Q,bq _ c,d⟩
theorem KW(Ts:Bz)(rs:List (Str×Int))(P:aU):(gf Ts rs P).length<=(au P).length:=by
 have:=bM List.length (KY Ts rs P);rw[aM] at this;rw[this];split
 .exact b_ _
 .exact aJ _
theorem Gq{f:aU->List (Str×Rat)}{k:Nat}:∀{l:List aU},(∀P∈l,(f P).length<=k)->(l.flatMap f).length<=k*l.length
 |[],_=>by simp
 |P::l,h=>by
  have h1:=Gq (l:=l) λQ a=>h Q (bq _ a);have h2:=h P (bw ..);rw[nU,eE,iA,Nat.mul_succ];omega
theorem TX{l:List (Str×Rat)}(h:(l.map (·.1)).Nodup):∀a∈l,∀b∈l,a.1=b.1->a=b:=by
 induction l with
 |nil=>intro a d;cases d
 |cons x l g=>
  obtain⟨h1,h2⟩:=kJ.mp (show(x.1::l.map (·.1)).Nodup from h);intro a d b i c;rcases bx.mp d with e|ha'<;>rcases bx.mp i with f|hb'
  .rw[e,f]
  .exact absurd (by rw[<-e,c];exact cZ hb') h1
  .exact absurd (by rw[<-f,<-c];exact cZ ha') h1
  .exact g h2 a ha' b hb' c
theorem Xj{rs:List (Str×Rat)}(f:(rs.map (·.1)).Nodup)(e:(rs.map bZ).Pairwise (λa b=>eB.kle (tU a) (tU b))):(rs.map (·.1)).Pairwise strLt:=by
 rw[jy] at e;have d:rs.Pairwise λa b=>a.1≠b.1:=jy.mp f;refine jy.mpr ((e.and d).imp ?_);rintro a b ⟨g,h⟩;have g:eB.blt b.1.cps.toList a.1.cps.toList=false:=g;have i:eB.blt a.1.cps.toList b.1.cps.toList=true:=by
  cases c:eB.blt a.1.cps.toList b.1.cps.toList with
  |true=>rfl
  |false=>exact absurd (CM (eB.total _ _ c g)) h
 exact show a.1.cps.toList<b.1.cps.toList from fu i
mutual
def cY(A:Ar):D->Bool
 |.tup xs=>gE A xs
 |.exc _=>false
 |.str z=>decide (z.length<=sizeLine)
 |.ref r=>match A[r]? with
  |some (.lst _)=>true
  |some (.dct _)=>true
  |_=>false
 |_=>true
def gE(A:Ar):Bi->Bool
 |[]=>true
 |x::xs=>cY A x&&gE A xs
end
noncomputable def xj(x:D)(a b:Int):Bool:=match x with
 |.int i=>decide (a<=i)&&decide (i<=b)
 |_=>false
noncomputable def qw:D->Bool
 |.str z=> !decide (z.cps.toList<("a":Str).cps.toList)&& !decide (("z":Str).cps.toList<z.cps.toList)
 |_=>false
def mw:D->Bool
 |.str n=>decide ((1:Int)<=(n.length:Nat))&&decide (((n.length:Nat):Int)<=3)&&(fE n).all qw
 |_=>false
def Ek:Ct:=λds A R _=>∃x a b,ds=[x,.int a,.int b]/\cY A x=true/\∀A',Gr A A'->R (.bl (xj x a b)) A'
def Eh:Ct:=λds A R _=>∃x,ds=[x]/\cY A x=true/\∀A',Gr A A'->R (.bl (mw x)) A'
mutual
theorem xN{A A':Ar}(g:Gr A A'):∀x,cY A x=true->cY A' x=true
 |.tup xs,h=>by
  have h:gE A xs=true:=h;exact IB g xs h
 |.aD,h=>rfl
 |.bl _,h=>rfl
 |.int _,h=>rfl
 |.str _,h=>h
 |.fl _,h=>rfl
 |.exc _,h=>by cases h
 |.ref r,h=>by
  unfold cY at h ⊢;cases e:A[r]? with
  |none=>rw[e] at h;cases h
  |some c=>rw[e] at h;rw[g.get e];exact h
theorem IB{A A':Ar}(g:Gr A A'):∀xs,gE A xs=true->gE A' xs=true
 |[],h=>rfl
 |x::xs,h=>by
  have h:(cY A x&&gE A xs)=true:=h;rw[fX] at h;show(cY A' x&&gE A' xs)=true;rw[fX];exact⟨xN g x h.1,IB g xs h.2⟩
end
theorem xO{A:Ar}{r:Nat}(h:cY A (.ref r)=true):lI A (.ref r)=some "list"\/lI A (.ref r)=some "dict":=by
 unfold cY at h;cases e:A[r]? with
 |none=>rw[e] at h;cases h
 |some c=>
  rw[e] at h;cases c with
  |lst xs=>exact .inl (by unfold lI;simp only[e])
  |dct kvs=>exact .inr (by unfold lI;simp only[e])
  |bI o kvs=>cases h
  |ins cl fs=>cases h
theorem RY{n:Str}(h:Nm n):mw (.str n)=true:=by
 have h1:=h.lo;have e:=h.hi;unfold mw;rw[fX,fX,jj,jj];refine⟨⟨ω,ω⟩,nP.mpr λx a=>?_⟩;obtain⟨c,hc,rfl⟩:=aP.mp a;obtain⟨f,g⟩:=h.az c hc;have b:¬((⟨#[c]⟩:Str).cps.toList<("a":Str).cps.toList):=by
  rw[L2.CF];intro h;have:=L2.uv.mp h;omega
 have d:¬(("z":Str).cps.toList<(⟨#[c]⟩:Str).cps.toList):=by
  rw[L2.CG];intro h;have:=L2.uv.mp h;omega
 show(!decide ((⟨#[c]⟩:Str).cps.toList<("a":Str).cps.toList)&& !decide (("z":Str).cps.toList<(⟨#[c]⟩:Str).cps.toList))=true;rw[d8 b,d8 d];rfl
theorem Ca{A:Ar}{n:Str}(h:Nm n):cY A (.str n)=true:=dg (d7 h.hi δ)
theorem Ph(T:TopD K mg "is_number" CD pB)(d:mg "isinstance"=none)(f:mg "bool"=none)(g:mg "int"=none):aC P w K mg base 1 "is_number" pB (aA mg 3 Ek):=by
 refine cg T KN λk l m n nd=>⟨_,(aF (cG (PW.pt (iL (f9 (kj HD d f boot_bool (vr 0))) (jo (fP (f9 (kj HE d g boot_int (vr 0))))))) (aG (a_ ie)) cJ)
  (aG (a_ (wB (vr 1) (vr 0) (vr 2))))),λds A R h hl=>?_⟩
 obtain⟨x,a,b,rfl,j,q⟩:=h;cases x with
 |int i=>
  have q:∀A',Gr A A'->R (.bl (decide (a<=i)&&decide (i<=b))) A':=q;refine cD (λc=>?_) (λc=>?_)
  .have e:(decide (a<=i)&&decide (i<=b))=decide (i<=b):=by simp[c]
   rw[e] at q;exact q _ Gr.refl
  .have e:(decide (a<=i)&&decide (i<=b))=false:=by simp[c]
   rw[e] at q;exact q _ Gr.refl
 |exc c=>cases j
 |ref r=>
  rcases xO j with e|e;all_goals
   conv=>whnf
   rw[e];conv=>whnf
   rw[e];exact q _ Gr.refl
 |_=>exact q _ Gr.refl
theorem Pe(T:TopD K mg "is_name" CC pA)(b:mg "isinstance"=none)(d:mg "str"=none)(g:mg "len"=none)(i:mg "all"=none){t:Tok}(a:mg "LONGEST_NAME"=some (.int 3 t)):aC P w K mg base 1 "is_name" pA (aA mg 1 Eh):=by
 refine cg T KL λs u p v nd=>⟨_,(aF (cG (PW.pt (iL (fP (f9 (kj BF b d boot_str (vr 0)))) (jo (fP (CZ ao (eW ia a3 g iE (aa (vr 0) ah)) (oB a)))))) (aG (a_ ie)) cJ)
  (aG (a_ (eW (vU rfl) v9 i boot_all (aa (gQ none (own:=["letter"]) (aw:=[]) (ix:=[]) rfl (AI (vr 0)) (λc=>(pG 0 (η:(["letter"]:Ap).Nodup))) (λc=>(wB cH (vr 0) cH))) ah))))),λds A R h hl=>?_⟩
 obtain⟨x,rfl,k,q⟩:=h;cases x with
 |str n=>
  have y:n.length<=sizeLine:=fu k;have q:∀A',Gr A A'->R (.bl (decide ((1:Int)<=(n.length:Nat))&&decide (((n.length:Nat):Int)<=3)&&(fE n).all qw)) A':=q;refine⟨y,cD (λl=>?_) (λl=>?_)⟩
  .refine cN (λm=>?_) (λm=>?_)
   .rw[d8 m] at q
    simp only[y_,Bool.false_and] at q;exact q _ Gr.refl
   rw[dg l,dg m] at q;simp only[Bool.true_and] at q;refine ic (f:=λx=>.bl (qw x)) trivial _ _ (λx p=>⟨[x],rfl,λQ j=>?_⟩) ?_ ?_
   .obtain⟨c,hc,rfl⟩:=aP.mp p
    have j:Q (.bl (!decide ((⟨#[c]⟩:Str).cps.toList<("a":Str).cps.toList)&& !decide (("z":Str).cps.toList<(⟨#[c]⟩:Str).cps.toList))) A:=j;refine cN (λo=>?_) (λo=>?_)
    .rw[d8 o] at j
     exact j
    .rw[dg o] at j
     exact j
   .have:(fE n).length=n.length:=by simp[fE,Str.length]
    show 0+(fE n).length<=sizeLine;omega
   .refine vO (bs:=(fE n).map qw) aN (qx _ _) ?_
    have e:((fE n).map qw).all id=(fE n).all qw:=θ
    rw[e];exact q _ Gr.push
  .rw[d8 l] at q
   simp only[Bool.false_and] at q;exact q _ Gr.refl
 |exc c=>cases k
 |ref r=>
  rcases xO k with e|e;all_goals
   conv=>whnf
   rw[e];exact q _ Gr.refl
 |_=>exact q _ Gr.refl
def jK:D->Bool
 |.tup [a,b]=>mw a&&xj b 1 999999
 |_=>false
def zI(x:D):Prop:=∃rs,x=dY rs/\j_ rs
def rz(x:D):Prop:=∀xs,x=.tup xs->xs.length<64
def Ef:Ct:=λds A R _=>∃x,ds=[x]/\cY A x=true/\∀A',Gr A A'->R (.bl (jK x)) A'
def D_:Ct:=λds A R _=>∃x,ds=[x]/\cY A x=true/\rz x/\∀A',Gr A A'->∀b:Bool,(b=true↔zI x)->R (.bl b) A'
def D0:Ct:=λds A R E=>∃x,ds=[x]/\cY A x=true/\rz x/\(zI x->∀A',Gr A A'->R .aD A')/\(¬zI x->∀A',Gr A A'->E "NoWeights" A')
theorem RZ{x:D}(h:mw x=true):∃n,x=.str n/\Nm n:=by
 cases x with
 |str n=>
  unfold mw at h;rw[fX,fX,jj,jj] at h;obtain⟨⟨h1,h2⟩,a⟩:=h;refine⟨n,rfl,⟨ω,ω,λc hc=>?_⟩⟩;have:=nP.mp a (.str ⟨#[c]⟩) (aP.mpr ⟨c,hc,rfl⟩);have this:(!decide ((⟨#[c]⟩:Str).cps.toList<("a":Str).cps.toList)&& !decide (("z":Str).cps.toList<(⟨#[c]⟩:Str).cps.toList))=true:=this;rw[L2.CF,L2.CG] at this;simp only[fX,vg,Dz] at this;have t1:¬([c]:Dx)<[97]:=this.1;have b:¬([122]:Dx)<[c]:=this.2;rw[L2.uv] at t1 b;omega
 |_=>cases h
theorem RX{x:D}(h:jK x=true):∃r:Str×Int,x=aR r/\Nm r.1/\1<=r.2/\r.2<=999999:=by
 unfold jK at h;split at h
 .rename_i a b
  rw[fX] at h;obtain⟨n,rfl,c⟩:=RZ h.1;cases b with
  |int i=>
   have h2:(decide ((1:Int)<=i)&&decide (i<=999999))=true:=h.2;simp only[fX,jj] at h2;exact⟨(n,i),rfl,c,h2.1,h2.2⟩
  |_=>exact absurd h.2 (by simp[xj])
 .cases h
theorem Wi{r:Str×Int}(a:Nm r.1)(h1:1<=r.2)(h2:r.2<=999999):jK (aR r)=true:=by
 show(mw (.str r.1)&&(decide ((1:Int)<=r.2)&&decide (r.2<=999999)))=true;rw[RY a,dg h1,dg h2];rfl
theorem JE:∀{xs:Bi},(∀x∈xs,jK x=true)->∃rs:List (Str×Int),xs=rs.map aR/\∀r∈rs,Nm r.1/\1<=r.2/\r.2<=999999
 |[],_=>⟨[],rfl,λ_ h=>by cases h⟩
 |x::xs,h=>by
  obtain⟨r,rfl,h1⟩:=RX (h x (bw ..));obtain⟨rs,rfl,h2⟩:=JE λy a=>h y (bq _ a);exact⟨r::rs,rfl,λq hq=>by
   rcases bx.mp hq with rfl|hq
   .exact h1
   .exact h2 q hq⟩
theorem AS{rs a:List (Str×Int)}(h:dY rs=dY a):rs=a:=by
 unfold dY at h;injection h with h;induction rs generalizing a with
 |nil=>cases a with
  |nil=>rfl
  |cons _ _=>cases h
 |cons r rs b=>cases a with
  |nil=>cases h
  |cons r' a=>
   simp only[cM,List.cons.injEq] at h;have e:=h.1;unfold aR at e;simp at e;rw[b h.2,Prod.ext e.1 e.2]
theorem IC{A:Ar}:∀{xs:Bi} {x:D},gE A xs=true->x∈xs->cY A x=true
 |y::xs,x,h,hx=>by
  have h:(cY A y&&gE A xs)=true:=h;rw[fX] at h;rcases bx.mp hx with rfl|hx
  .exact h.1
  .exact IC h.2 hx
theorem Pf(T:TopD K mg "is_named_number" Kl ye)(d:mg "isinstance"=none)(j:mg "tuple"=none)(k:mg "len"=none){t:Tok}(g:mg "HEAVIEST"=some (.int 999999 t))
  (i:aC P w K mg base 1 "is_name" pA (aA mg 1 Eh))(f:aC P w K mg base 1 "is_number" pB (aA mg 3 Ek)):aC P w K mg base 2 "is_named_number" ye (aA mg 1 Ef):=by
 refine cg T W0 λp y s n nd=>⟨_,(aF (cG (PW.pt (iL (fP (f9 (kj kit_tuple d j lO (vr 0)))) (jo (jv n (eW ia a3 k iE (aa (vr 0) ah)) ao)))) (aG (a_ ie)) cJ)
  (aG (a_ (AD (dL i p s (aa (dX n (vr 0) ao) ah)) (AG (dL f p s (aa (dX n (vr 0) ao) (aa ao (aa (oB g) ah))))))))),λds A R h hl=>?_⟩
 obtain⟨x,rfl,m,q⟩:=h;cases x with
 |tup xs=>
  have m:gE A xs=true:=m;refine cN (λc=>?_) (λc=>?_)
  .have e:jK (.tup xs)=false:=by
    match xs,c with
    |[],_=>rfl
    |[_],_=>rfl
    |[a,b],c=>exact absurd rfl c
    |_::_::_::_,_=>rfl
   have:=q A Gr.refl;rw[e] at this;exact this
  .obtain⟨a,b,rfl⟩:∃a b,xs=[a,b]:=by
    have c:((xs.length:Nat):Int)=2:=c;match xs,c with
    |[a,b],_=>exact⟨a,b,rfl⟩
    |[],c=>simp at c
    |[_],c=>simp at c
    |_::_::_::_,c=>simp at c;omega
   have l:(cY A a&&(cY A b&&true))=true:=m;simp only[fX,and_true] at l;have q:∀A',Gr A A'->R (.bl (mw a&&xj b 1 999999)) A':=q;refine⟨rfl,a,rfl,l.1,λz o=>?_⟩;cases u:mw a with
   |false=>
    rw[u] at q;exact q _ o
   |true=>
    rw[u] at q;exact⟨rfl,b,1,999999,rfl,xN o _ l.2,λB v=>q _ (o.trans v)⟩
 |exc c=>cases m
 |ref r=>
  rcases xO m with e|e;all_goals
   conv=>whnf
   rw[e];exact q _ Gr.refl
 |_=>exact q _ Gr.refl
theorem Pd(T:TopD K mg "is_weights" Km yf)(d:mg "isinstance"=none)(k:mg "tuple"=none)(o:mg "all"=none)(g:mg "sorted"=none)(p:mg "set"=none)
  (a:aC P w K mg base 2 "is_named_number" ye (aA mg 1 Ef)):aC P w K mg base 3 "is_weights" yf (aA mg 1 D_):=by
 refine cg T W2 λj W m M nd=>⟨_,(aF (cG (PW.pt (iL (fP (f9 (kj kit_tuple d k lO (vr 0)))) (jo (fP (f9 (eW (vU rfl) v9 o boot_all (aa (gQ none (own:=["pair"]) (aw:=[]) (ix:=[]) rfl (cz (vr 0)) (λc=>(pG 0 (η:(["pair"]:Ap).Nodup))) (λc=>(dL a j nD (aa (vr 0) ah)))) ah))))))) (aG (a_ ie)) cJ)
  (aF (s_ none (own:=["pair"]) (aw:=[]) (ix:=[]) (i:=1) nd rfl (by first|exact Or.inl rfl|exact Or.inr rfl) rfl (cz (vr 0)) (λc=>(pG 0 (η:(["pair"]:Ap).Nodup))) (λc=>(dX M (vr 0) ao)))
  (aG (a_ (tE M (vr 1) (FA g p rfl (aa (vr 1) ah))))))),λds A R h hl=>?_⟩
 obtain⟨x,rfl,u,E,q⟩:=h;have l:(∀xs,x≠ .tup xs)->R (.bl false) A:=λh=>q _ Gr.refl false ⟨λe=>(by cases e),λ⟨rs,e,_⟩=>absurd e (h _)⟩;cases x with
 |tup xs=>
  have u:gE A xs=true:=u;have s:=E xs rfl;have X:(1000:Nat)<=sizeLine:=δ
  refine vZ (λx=>.bl (jK x)) _ _ _ (λ_ _=>trivial) (λx m N F=>⟨[x],rfl,λQ G=>?_⟩) (ω:0+xs.length<=sizeLine) (λN F=>?_)
  .exact⟨rfl,x,rfl,xN F _ (IC u m),λU B=>G _ B⟩
  rw[fm];refine vO (bs:=xs.map jK) aN (qx _ _) ?_;have B:=F.trans (Gr.push (T:=[C.lst (xs.map λx=>D.bl (jK x))]));generalize N++[C.lst (xs.map λx=>D.bl (jK x))]=U at*
  cases H:(xs.map jK).all id with
  |false=>
   refine q _ B false ⟨λe=>(by cases e),λ⟨rs,e,v⟩=>?_⟩;injection e with e;subst e;have:((rs.map aR).map jK).all id=true:=nP.mpr λb V=>by
    obtain⟨x,m,rfl⟩:=aP.mp V;obtain⟨r,j,rfl⟩:=aP.mp m;exact Wi (v.nm r j) (v.no r j).1 (v.no r j).2
   rw[this] at H;cases H
  |true=>
   obtain⟨rs,rfl,t⟩:=JE (xs:=xs) λx m=>nP.mp H _ (cZ m);rw[aM] at s;refine ic (f:=λx=>match x with|.tup (y::_)=>y|x=>x) trivial _ _ (λx m=>⟨[x],rfl,λQ G=>?_⟩) (show 0+(rs.map aR).length<=sizeLine by rw[aM];omega) ?_
   .obtain⟨r,j,rfl⟩:=aP.mp m
    exact G
   have e:(rs.map aR).map (λx=>match x with|.tup (y::_)=>y|x=>x)=(rs.map (·.1)).map D.str:=by
    rw[br,br];rfl
   rw[fm,e];have z:∀n∈rs.map (·.1),Nm n:=λn I=>by
    obtain⟨r,j,rfl⟩:=aP.mp I;exact(t r j).1
   refine Lc (ss:=rs.map (·.1)) aN (by have:=strs_map id (rs.map (·.1));simpa using this) (by simpa using s) λys O S=>?_;refine O4 (a4 aN) aN z (λn I=>z n ((S n).mp I)) ?_;refine q _ ((B.trans Gr.push).trans Gr.push) _ ?_;rw[jj];constructor
   .intro h
    exact⟨rs,rfl,λr j=>(t r j).1,λr j=>(t r j).2,by rw[h];exact O,s⟩
   .rintro ⟨J,L,v⟩
    have L:rs=J:=AS L;subst L;exact(pw_eq O v.up S).symm
 |exc c=>cases u
 |ref r=>
  rcases xO u with e|e;all_goals
   conv=>whnf
   rw[e];exact l λxs h=>by cases h
 |_=>exact l λxs h=>by cases h
theorem Pc(T:TopD K mg "check_are_weights" J1 x8){a:Addr}(d:mg "NoWeights"=some (.ref a))(e:excIn K a mG "ValueError.__new__"=true)
  (c:aC P w K mg base 3 "is_weights" yf (aA mg 1 D_)):aC P w K mg base 4 "check_are_weights" x8 (aA mg 1 D0):=by
 refine cg T WM λj k l p nd=>⟨_,(aG (cG (fP (f9 (dL c j l (aa (vr 0) ah)))) (aG (oF k rfl d e (aa cH ah))) cJ)),λds A R h hl=>?_⟩;obtain⟨x,rfl,m,f,n,o⟩:=h;refine⟨rfl,x,rfl,m,f,λq g b i=>?_⟩;cases b with
 |true=>exact n (i.mp rfl) _ g
 |false=>exact⟨δ,o (λh=>by cases i.mpr h) _ g⟩
def D7:Ct:=λds A R E=>∃r Ts y,ds=[.ref r,y]/\iV A r Ts/\Ts.length<=7/\cY A y=true/\rz y/\(∀rs,y=dY rs->j_ rs->(∀p∈rs,∃T∈Ts,p.1∈af T)->∀A',Gr A A'->R .aD A')/\
 ((¬∃rs,y=dY rs/\j_ rs/\∀p∈rs,∃T∈Ts,p.1∈af T)->∀A',Gr A A'->E "NoWeights" A')
def Er:Ct:=λds A R E=>∃x NN y,ds=[x,y]/\(∃ms,gM x ms)/\(∀n∈NN,Nm n)/\cY A y=true/\rz y/\∀ms,gM x ms->dw (ms.map aI) NN/\
 ((¬∃rs,y=dY rs/\j_ rs/\∀p∈rs,∃T∈ms.map aI,p.1∈af T)->∀A',Gr A A'->E "NoWeights" A')/\
 (∀rs,y=dY rs->j_ rs->(∀p∈rs,∃T∈ms.map aI,p.1∈af T)->(gR (ms.map aI)≠none->∀A',Gr A A'->E "Never" A')/\(gR (ms.map aI)=none->(∀P∈bg (ms.map aI),∀n∈au P,kT (bY (ms.map aI) P n))/\
  (qt (ms.map aI) rs->∀A' q (es:List (Str×Rat)),Gr A A'->es.Perm (nE (ms.map aI) rs)->(es.map (·.1)).Pairwise strLt->A'[q]? =some (.lst (es.map bZ))->A.length<=q->R (.ref q) A')/\(¬qt (ms.map aI) rs->∀A',Gr A A'->E "Never" A')))
theorem Py(T:TopD K mg "check_told" J9 ya)(m:mg "any"=none){b:Addr}(f:mg "NoWeights"=some (.ref b))(g:excIn K b mG "ValueError.__new__"=true)(a:aC P w K mg base 4 "check_are_weights" x8 (aA mg 1 D0)):aC P w K mg base 5 "check_told" ya (aA mg 2 D7):=by
 refine cg T WR λhr hR hx hu nd=>⟨_,(aF (f7 (dL a hr hx (aa (vr 1) ah)))
  (aG (d_ dP rfl (cz (vr 1)) (k8 rfl (fK (dG 2 nd) (fK (dG 3 nd) k9))) (aG (cG (fP (f9 (eW (MZ rfl) NS m MW (aa (gQ none (own:=["table"]) (aw:=[κi]) (ix:=[2]) rfl (cz (vr 0)) (λc=>(pG 0 (η:(["table",κi]:Ap).Nodup))) (λc=>(OT hu (vr 1) (vr 0)))) ah)))) (aG (oF hR rfl f g (aa (Oo (FP (OF (vr 2) (FP OE)))) ah))) cJ))))),λds A R h hl=>?_⟩
 obtain⟨r,Ts,y,rfl,hB,h7,G,H,q,X⟩:=h;obtain⟨ts,h1,h2⟩:=hB;have hz:(1000:Nat)<=sizeLine:=δ
 have I:=h2.len;refine⟨rfl,y,rfl,G,H,λE A1 J=>?_,λhn A1 J=>X (λ⟨rs,e,hw,_⟩=>hn ⟨rs,e,hw⟩) _ J⟩;obtain⟨rs,rfl,E⟩:=E;refine dW (λrest τ A'=>∃(B d:List (Str×Int)) (L M:Option D),rest=d.map aR/\B++d=rs/\(∀p∈B,∃T∈Ts,p.1∈af T)/\τ=[some (.ref r),some (dY rs),L,M]/\Gr A A') ?_ ?_ ?_ _ _ _ ⟨[],rs,none,none,rfl,rfl,(λp F=>by cases F),rfl,J⟩
 .intro _ _ _ _
  trivial
 .rintro v rest τ Y ⟨B,d,L,M,e,j,n,rfl,o⟩ Nx hN
  cases d with
  |nil=>cases e
  |cons p d=>
  cases e;have F:p∈rs:=by rw[<-j];simp
  refine⟨rfl,dB (o.get h1) ?_⟩;refine Aj (λrest ys A'=>∃i,i<=ts.length/\rest=(ts.map D.ref).drop i/\ys=(Ts.take i).map (λT=>D.bl (decide (p.1∈af T)))/\A'=Y) ?_ ?_ ?_ ?_ _ _ _ ⟨0,b_ _,rfl,rfl,rfl⟩
  .rintro rest ys A' ⟨_,_,_,_,rfl⟩
   exact o.get h1
  .rintro rest ys A' ⟨i,hi,_,rfl,_⟩
   rw[aM,pT];omega
  .rintro y rest ys A' ⟨i,hi,e,rfl,rfl⟩
   by_cases C:i<ts.length
   .obtain⟨t,Z⟩:∃t,ts[i]?=some t:=⟨ts[i],aS C⟩
    obtain⟨T0,hT,hA⟩:=h2.get Z;have l:i<(ts.map D.ref).length:=by rw[aM];exact C
    have ev:(ts.map D.ref)[i]?=some (.ref t):=by rw[bz,Z];rfl
    rw[mU l] at e;rw[aS l] at ev;have ev:=Option.some.inj ev;rw[ev] at e;cases e;refine⟨[.ref t],rfl,λQ hQ=>Hs (hA.gr o) rfl ?_⟩;rw[av cC,qM];refine hQ _ _ ⟨i+1,ω,rfl,?_,rfl⟩;rw[rK,hT,c_];rfl
   .rw[rZ (by rw[aM];omega)] at e
    cases e
  .rintro ys A' ⟨i,hi,e,rfl,rfl⟩
   have hi:i=ts.length:=by
    have:=bM List.length e;simp at this;omega
   rw[hi,I,vj (aJ _)];refine MH aN (qx (λT=>decide (p.1∈af T)) Ts) ?_;by_cases k:∃T∈Ts,p.1∈af T
   .have N:((Ts.map λT=>decide (p.1∈af T)).any id)=true:=by
     obtain⟨T0,s,u⟩:=k;rw[any_map,jZ];exact⟨T0,s,dg u⟩
    rw[N];exact hN _ _ ⟨B++[p],d,_,_,rfl,by simpa using j,λp' O=>by
     rcases bR.mp O with z|z
     .exact n p' z
     .rw[bS.mp z];exact k,rfl,o.trans Gr.push⟩
   .have N:((Ts.map λT=>decide (p.1∈af T)).any id)=false:=by
     rw[Bool.eq_false_iff];intro z;rw[any_map,jZ] at z;obtain⟨T0,s,u⟩:=z;exact k ⟨T0,s,fu u⟩
    rw[N];have S:=E.nm p F;have Zp:=S.hi;have no:=X (λ⟨U,V,_,W⟩=>k (by
     have V:rs=U:=AS V;exact W p (by rw[<-V];exact F)))
    have f1:(Str.empty++Str.ofString "there is no ").length=12:=η
    have f2:(Str.ofString " in the hall").length=12:=η
    have al:∀x y:Str,(x++y).length=x.length+y.length:=λx y=>size_append;exact⟨δ,by show p.1.length<=_;omega,by show _+p.1.length<=_;omega,by rw[al];show _+p.1.length+_<=_;omega,by rw[al,al];show _+p.1.length+_<=_;omega,Nat.le_of_ble_eq_true rfl,no _ (o.trans Gr.push)⟩
 .rintro τ Y ⟨B,d,L,M,e,j,n,rfl,o⟩
  obtain rfl:d=[]:=by simpa using e.symm
  rw[lN] at j;subst j;exact q B rfl E n _ o
theorem Qe(T:TopD K mg "settled" Kv yk)(s:mg "sorted"=none)(j:aC P w K mg base 13 "hall_shares" uD (aA mg 1 zV))(k:aC P w K mg base 5 "check_told" ya (aA mg 2 D7))(b:aC P w K mg base 6 "check_no_ring" uz (aA mg 1 zY))(u:aC P w K mg base 3 "groups" qW (aA mg 1 vK))(f:aC P w K mg base 4 "settled_group" yo (aA mg 2 Es))(g:aC P w K mg base 5 "group_weights" uC (aA mg 2 zU)):aC P w K mg base 14 "settled" yk (aA mg 2 Er):=by
 refine cg T W_ λhr hR S hu nd=>⟨_,(aF (dS 2 nd (dL j hr S (aa (vr 0) ah)))
  (aF (f7 (dL k hr S (aa (vr 2) (aa (vr 1) ah))))
  (aF (f7 (dL b hr S (aa (vr 2) ah)))
  (aF (dS 3 nd (dO ah))
  (aF (d_ dP rfl (cz (dL u hr S (aa (vr 2) ah))) (dG 4 nd) (aF (AL none (own:=["pair"]) (aw:=[κp]) (ix:=[4]) (i:=5) nd rfl (by first|exact Or.inl rfl|exact Or.inr rfl) rfl (cz (vr 1)) (λc=>(pG 0 (η:(["pair",κp]:Ap).Nodup))) (λc=>(CY hu (dX hu (vr 0) ao) (vr 1))) (λc=>(vr 0)))
  (aG (f7 (ig iD pZ rM uq sU (vr 3) (aa (dL f hr S (aa (dL g hr S (aa (vr 2) (aa (vr 4) ah))) (aa (vr 5) ah))) ah))))))
  (aG (a_ (eW (E1 rfl hu) Fq s boot_sorted (aa (vr 3) ah))))))))),λds A R h hl=>?_⟩
 obtain⟨x,NN,y,rfl,hk,Bt,Rf,B,q1⟩:=h;have hz:(1000:Nat)<=sizeLine:=δ
 refine⟨rfl,x,rfl,hk,λms hH A1 r g1 hB l1=>?_,λM A1 g1=>absurd hk M⟩;obtain⟨ar,q2,q3⟩:=q1 ms hH;refine⟨rfl,r,_,y,rfl,hB,ar.len,xN g1 _ Rf,B,λrs ey hW hin LN H=>?_,λM LN H=>q2 M _ (g1.trans H)⟩;subst ey;obtain⟨q5,q4⟩:=q3 rs rfl hW hin;have GY:=hB.gr H;refine⟨rfl,r,_,NN,rfl,GY,ar,λe G g2=>?_,λe G g2=>q5 e _ ((g1.trans H).trans g2)⟩;obtain⟨hF,q6,q7⟩:=q4 e;have hB2:=GY.gr g2;have W:=(g1.trans H).trans g2;clear q1 q2 q3 q4 q5;generalize Q4:ms.map aI=Ts at*
 refine⟨b_ _,rfl,r,Ts,NN,rfl,hB2.gr Gr.push,ar,λA3 q3 g3 hG=>?_⟩;obtain⟨lq,gs,G6,X⟩:=hG;have oW:=X.len;have Y:(G++[C.lst []]).length=G.length+1:=θ
 rw[Y] at X lq;have gl:(bg Ts).length<=12:=by
  have:=GS (Gs:=bg Ts) (NN:=NN) (λP hP=>?_) (oJ ar)
  .have:=ar.nn
   omega
  .obtain⟨n,M,_,rfl⟩:=gB ar hP
   exact⟨n,(iw ar M).2.1,M⟩
 have Bv:A3[G.length]?=some (.lst []):=g3.get aN;have lrs:=hW.len;refine dB G6 ?_;refine dW (λrest τ A'=>∃(dn a:Dx) (i:Nat) (x4 x5:Option D),rest=a.map D.ref/\dn++a=gs/\i=dn.length/\τ=[some x,some (dY rs),some (.ref r),some (.ref G.length),x4,x5]/\A'[G.length]?=some (.lst ((((bg Ts).take i).flatMap (gf Ts rs)).map bZ))/\A'[q3]?=some (.lst (gs.map D.ref))/\fM (G.length+1) A' gs (bg Ts)/\Gr G A'/\(∀P∈(bg Ts).take i,∀N a,e_ rs P=N::a->∀p∈e_ rs P,fT (bY Ts P) N*bY Ts P p.1=(p.2:Rat))) ?_ ?_ ?_ _ _ _ ⟨[],gs,0,none,none,rfl,rfl,rfl,rfl,Bv,G6,X,Gr.push.trans g3,λP h=>by simp at h⟩
 .rintro rest τ A' ⟨_,_,_,_,_,_,_,_,_,_,h,_⟩
  exact h
 .rintro v rest τ A4 ⟨dn,a,i,x4,x5,e1,E,hi,rfl,F,Hh,Z,g4,B⟩ Nx hN
  cases a with
  |nil=>cases e1
  |cons t a=>
  cases e1;have hgt:gs[i]?=some t:=by rw[hi,<-E];simp
  obtain⟨Pg,G0,wL⟩:=Z.get hgt;have I:=cF G0;obtain⟨n,M,_,AQ⟩:=gB ar I;subst AQ;obtain⟨qY,pin,_⟩:=iw ar M;have Vx:=qY.len;have Ih:=ar.nn;have SR:(au (aH Ts n)).length=(aH Ts n).length:=by simp[au]
  obtain⟨lt',ZC,tR,Rb,Zu⟩:=id wL;refine Al aR (λp=>decide (p.1∈au (aH Ts n))) aR rs [] A4 (λ_ _=>trivial) (λp hp A5 g5=>?_) (by simp;omega) (λA5 g5=>?_)
  .refine⟨[aR p],rfl,λQ hQ=>?_,λA6 g6 Q hQ=>hQ _ Gr.refl⟩
   refine oQ (g5.get tR) rfl ?_;rw[av cC,xq Rb];exact hQ _ Gr.refl
  rw[fm];have Rc:(A5++[C.lst ((e_ rs (aH Ts n)).map aR)])[A5.length]?=some (.lst ((e_ rs (aH Ts n)).map aR)):=aN;have J:=g5.trans (Gr.push (T:=[C.lst ((e_ rs (aH Ts n)).map aR)]));have QL:(A5++[C.lst ((rs.filter λp=>decide (p.1∈au (aH Ts n))).map aR)]:Ar)=A5++[C.lst ((e_ rs (aH Ts n)).map aR)]:=rfl;rw[QL];generalize Zl:(A5++[C.lst ((e_ rs (aH Ts n)).map aR)]:Ar)=A6 at*
  have wW:=J.get F;refine⟨gn wW,rfl,r,t,Ts,NN,n,G,rfl,hB2,g4.trans J,ar,M,(wL.gr J).lo ω,λA7 p kvs g7 h7 l7 fb=>?_⟩;have qF:((bg Ts).take (i+1))=(bg Ts).take i++[aH Ts n]:=by
   rw[rK,G0];rfl
  have fin:∀(O:Ar) (U:Nat) (x5:Option D) (bT:bL),Gr A7 O->O[U]?=some (.lst ((gf Ts rs (aH Ts n)).map bZ))->A7.length<=U->(∀N a,e_ rs (aH Ts n)=N::a->∀p∈e_ rs (aH Ts n),fT (bY Ts (aH Ts n)) N*bY Ts (aH Ts n) p.1=(p.2:Rat))->bT=[some x,some (dY rs),some (.ref r),some (.ref G.length),some (.ref t),x5]->tG G.length U O λ_ A'=>Nx bT A':=λO U x5 bT V h8 l8 o tX=>by
   have Hj:=V.get (g7.get wW);have Bf:=(J.trans g7).trans V;have sz:((((bg Ts).take i).flatMap (gf Ts rs)).map bZ).length+((gf Ts rs (aH Ts n)).map bZ).length<=sizeLine:=by
    have b1:(((bg Ts).take i).flatMap (gf Ts rs)).length<=12*((bg Ts).take i).length:=Gq λQ hQ=>by
     obtain⟨n',L,_,rfl⟩:=gB ar (vc hQ);have:=KW Ts rs (aH Ts n');have:=(iw ar L).1.len;simp[au] at*
     omega
    have b2:=KW Ts rs (aH Ts n);have b3:((bg Ts).take i).length<=12:=by rw[pT];omega
    rw[aM,aM];omega
   refine qI Hj h8 sz ?_;refine hN _ _ ⟨dn++[t],a,i+1,_,_,rfl,by simpa using E,by simp[hi],tX,?_,?_,?_,(g4.trans Bf).set (aJ _),λP hP=>?_⟩
   .rw[qF,qf,c_]
    have:([aH Ts n].flatMap (gf Ts rs))=gf Ts rs (aH Ts n):=θ
    rw[this];exact eG (bQ Hj)
   .rw[eF ω]
    exact Bf.get Hh
   .exact Z.kE λq P hP=>(hP.gr Bf).set ω
   .rw[qF] at hP
    rcases bR.mp hP with hP|hP
    .exact B P hP
    .rw[bS.mp hP]
     exact o
  refine⟨rfl,p,kvs,_,_,A5.length,e_ rs (aH Ts n),rfl,h7,fb,ω,λm hm=>hF _ I m hm,g7.get Rc,λp' qN=>?_,λh0 O U V h8 l8=>?_,λN mo h0=>⟨λo O U V h8 l8=>?_,λhbad O V=>?_⟩⟩
  .obtain⟨m1,m2⟩:=nI.mp qN
   exact⟨fu m2,hW.nm _ m1,hW.no _ m1⟩
  .refine fin O U _ _ V ?_ l8 (λN mo z=>by rw[h0] at z;cases z) rfl
   have:gf Ts rs (aH Ts n)=[]:=by unfold gf;rw[h0]
   rw[this];exact h8
  .refine fin O U _ _ V ?_ l8 (λZV mo' z=>by rw[h0] at z;cases z;exact o) rfl
   have:(gf Ts rs (aH Ts n)).map bZ=(au (aH Ts n)).map (iy λm=>fT (bY Ts (aH Ts n)) N*bY Ts (aH Ts n) m):=by
    unfold gf;rw[h0];show((au (aH Ts n)).map _).map bZ=_;rw[br];rfl
   rw[this];exact h8
  .exact q7 (λRr=>hbad (Rr _ I N mo h0)) _ (((W.trans g4).trans J).trans (g7.trans V))
 .rintro τ A4 ⟨dn,a,i,x4,x5,e1,E,hi,rfl,F,Hh,Z,g4,B⟩
  cases a with
  |cons _ _=>cases e1
  |nil=>
  have E:dn=gs:=by simpa using E
  have hil:i=(bg Ts).length:=by rw[hi,E,oW]
  rw[hil,vj (aJ _)] at F B;have F:A4[G.length]?=some (.lst ((nE Ts rs).map bZ)):=F;obtain⟨t1,t2⟩:=KZ (Ts:=Ts) (rs:=rs) (oJ ar) λP hP=>by
   obtain⟨n',L,_,rfl⟩:=gB ar hP;exact(iw ar L).1.nd
  have inN:∀x∈(nE Ts rs).map (·.1),x∈NN:=λx S=>by
   obtain⟨Q,hQ,hq⟩:=fG.mp (show x∈(bg Ts).flatMap au from t2 x S);obtain⟨n',L,_,rfl⟩:=gB ar hQ;exact(iw ar L).1.sub x hq
  have xr:(nE Ts rs).length<=12:=by
   have:=iu _ NN t1 inN;have:=ar.nn;rw[aM] at*
   exact d7 (by assumption) (by assumption)
  have same:=TX (l:=nE Ts rs) t1;refine Lb eB tU F (by rw[aM];omega) (λd hd=>?_) (λd hd e he=>?_) λes pe se=>?_
  .obtain⟨p,hp,rfl⟩:=aP.mp hd
   exact Xi (Bt _ (inN _ (cZ hp)))
  .obtain⟨p,hp,rfl⟩:=aP.mp hd
   obtain⟨p',qN,rfl⟩:=aP.mp he;exact Xg (same p hp p' qN)
  obtain⟨zs,rfl⟩:=ED (ds:=es) λd hd=>by
   obtain⟨p,_,rfl⟩:=aP.mp (pe.mem_iff.mp hd);exact⟨p,rfl⟩
  have pr:=Vk pe;exact q6 B _ _ zs ((W.trans g4).trans Gr.push) pr (Xj ((pr.map (·.1)).nodup_iff.mpr t1) se) aN (by have:=(W.trans g4).len;omega)
theorem MV:bootBuiltins "ValueError"=some (.type "ValueError"):=η
def Ew(nm:Str)(j:Nat):Ct:=λds A R _=>ds=[.exc nm]/\∀A',Gr A A'->R (.tup [.str "refused",.int (j:Nat)]) A'
noncomputable def iY:List (Str×Bool)->Str->Option Bool
 |[],_=>none
 |(n,b)::r,c=>if c=n then some b else iY r c
theorem bX.nil{K:Frag}{mg:ay}{a:Value}:bX K mg a (iY []):=λc C b h _=>by cases h
theorem bX.cons{K:Frag}{mg:ay}{nm:Str}{C:Addr}{a:Value}{b:Bool}{r:List (Str×Bool)}(d:mg nm=some (.ref C))(f:n9 K C)(g:kitOne K (.ref C) a=some b)(i:bX K mg a (iY r)):bX K mg a (iY ((nm,b)::r)):=λc j k h h'=>by
 unfold iY at h;split at h
 .rename_i e
  subst e;cases h;rw[d] at h';cases h';exact⟨f,g⟩
 .exact i c j k h h'
def Ey:Ct:=λds A R E=>Ew "NoWeights" 2 ds A R E\/Ew "Never" 5 ds A R E
abbrev a5(K:Frag)(mg:ay)(a:Value)(x y:Bool):=bX K mg a (iY [("NoWeights",x),("Never",y)])
theorem Ql(T:TopD K mg "_law_which" CB xX)(a:mg "isinstance"=none)(k:mg "ValueError"=none){d n b t e u g i:Addr}
  (v:mg "NoMobile"=some (.ref d))(L:mg "NoHall"=some (.ref n))(o:mg "NoWeights"=some (.ref b))(Q:mg "NoWay"=some (.ref t))(x:mg "NoNumber"=some (.ref e))(S:mg "Never"=some (.ref u))(G:mg "TooLong"=some (.ref g))(I:mg "TooDeep"=some (.ref i))
  (p:a5 K mg (.ref d) false false)(J:a5 K mg (.ref n) false false)(l:a5 K mg (.ref b) true false)(M:a5 K mg (.ref t) false false)(r:a5 K mg (.ref e) false false)(O:a5 K mg (.ref u) false true)(y:a5 K mg (.ref g) false false)(z:a5 K mg (.ref i) false false)(j:a5 K mg (.type "ValueError") true true):qm P w K mg base 1 "_law_which" xX (aA mg 1 Ey):=by
 refine Qp T KI rfl δ λN f U B outer s H E X ds A R RE h hl=> ?_
 have Y:(B.deeper (envOfC "_law_which" (aO CB) s.heap.objs.size f U)).units+64<cLine:=by
  have:=X.un
  omega
 have nd:=KI.nd
 refine⟨_,(aF (dS 1 nd (dO (aa (m6 a v p (vr 0)) (aa (m6 a L J (vr 0)) (aa (m6 a o l (vr 0)) (aa (m6 a Q M (vr 0)) ah))))))
  (aF (f7 (ig iD pZ rM uq sU (vr 1) (aa (dO (aa (m6 a x r (vr 0)) (aa (m6 a S O (vr 0)) (aa (m6 a G y (vr 0)) (aa (m6 a I z (vr 0)) ah))))) ah)))
  (aF (cG (PW.pt (iL (jv Y (ig iD PySem.F.slot_list_count PySem.F.type_list_count TL NT (vr 1) (aa ie ah)) ao) (jo (fP (f9 (Ol a k MV j (vr 0))))))) (aG (a_ (bP (aa cH (aa (Ot ao) ah))))) cJ)
  (aG (a_ (bP (aa cH (aa (ig iD PySem.F.slot_list_index PySem.F.type_list_index TR N1 (vr 1) (aa ie ah)) ah)))))))),?_⟩
 rcases h with⟨rfl,q⟩|⟨rfl,q⟩
 .refine⟨(δ:4<=sizeLine),gn aN,(δ:4<=sizeLine),qI (a4 aN) aN δ ?_⟩
  have h1:=get_set (ys:=[D.bl false,D.bl false,D.bl true,D.bl false]++[D.bl false,D.bl false,D.bl false,D.bl false]) (a4 (T:=[C.lst [D.bl false,D.bl false,D.bl false,D.bl false]]) (aN (A:=A) (c:=C.lst [D.bl false,D.bl false,D.bl true,D.bl false])))
  have V:∀m,m<2->[false,false,true,false,false,false,false,false][m]? =some false:=δ
  refine⟨gn h1,E_ (bs:=[false,false,true,false,false,false,false,false]) h1 rfl ?_⟩
  refine⟨gn h1,Hr (bs:=[false,false,true,false,false,false,false,false]) 2 h1 rfl rfl (λm c W h=>by rw[V m W] at h;cases h;decide) ⟨(δ:2<=sizeLine),q _ ?_⟩⟩
  exact((Gr.push.trans Gr.push).set (aJ _))
 .refine⟨(δ:4<=sizeLine),gn aN,(δ:4<=sizeLine),qI (a4 aN) aN δ ?_⟩
  have h1:=get_set (ys:=[D.bl false,D.bl false,D.bl false,D.bl false]++[D.bl false,D.bl true,D.bl false,D.bl false]) (a4 (T:=[C.lst [D.bl false,D.bl true,D.bl false,D.bl false]]) (aN (A:=A) (c:=C.lst [D.bl false,D.bl false,D.bl false,D.bl false])))
  have V:∀m,m<5->[false,false,false,false,false,true,false,false][m]? =some false:=δ
  refine⟨gn h1,E_ (bs:=[false,false,false,false,false,true,false,false]) h1 rfl ?_⟩
  refine⟨gn h1,Hr (bs:=[false,false,false,false,false,true,false,false]) 5 h1 rfl rfl (λm c W h=>by rw[V m W] at h;cases h;decide) ⟨(δ:2<=sizeLine),q _ ?_⟩⟩
  exact((Gr.push.trans Gr.push).set (aJ _))
theorem a7{K:Frag}{mg:ay}{C D:Addr}{a:Value}{x y:Bool}(d:mg "NoWeights"=some (.ref C))(f:n9 K C)(e:mg "Never"=some (.ref D))(h:n9 K D)(g:kitOne K (.ref C) a=some x:=by kit_is)(i:kitOne K (.ref D) a=some y:=by kit_is):a5 K mg a x y:=bX.cons d f g (bX.cons e h i bX.nil)
def kG(j:Nat):D:=.tup [.str "refused",.int j]
theorem SH(j:Nat):(toQ (kG j)).canLay0=true:=by
 show canLay0 (.tuple [.str "refused",.int j])=true;simp only[canLay0,canLayAll0,Bool.and_true];decide+kernel
theorem Cn{neg:Bool}{j:Nat}{A:Ar}{R:DK}(k:R (.bl (!neg)) A):f6 neg (kG j) (.tup [.str "refused",.int j]) A R:=by
 unfold f6;have c:=SH j;have h1:cW A (kG j)=toQ (kG j):=rfl;have h2:cW A (.tup [.str "refused",.int j])=toQ (kG j):=rfl;rw[h1,h2];refine⟨rfl,rfl,c,c,?_,?_⟩
 .show min (PyData.depth (.tuple [.str "refused",.int j])) (PyData.depth (.tuple [.str "refused",.int j]))<=64
  simp[PyData.depth,depthAll]
 .rw[PySem.SeqAt.eqv_refl _ c]
  cases neg<;>exact k
def mY:Ct:=λds A R _=>∃x NN y,ds=[x,y]/\(∃ms,gM x ms)/\(∀n∈NN,Nm n)/\cY A y=true/\rz y/\∀ms,gM x ms->dw (ms.map aI) NN/\
 ((¬∃rs,y=dY rs/\j_ rs/\∀p∈rs,∃T∈ms.map aI,p.1∈af T)->∀A',Gr A A'->R (kG 2) A')/\
 (∀rs,y=dY rs->j_ rs->(∀p∈rs,∃T∈ms.map aI,p.1∈af T)->(gR (ms.map aI)≠none->∀A',Gr A A'->R (kG 5) A')/\(gR (ms.map aI)=none->(∀P∈bg (ms.map aI),∀n∈au P,kT (bY (ms.map aI) P n))/\
  (qt (ms.map aI) rs->∀A' q (es:List (Str×Rat)),Gr A A'->es.Perm (nE (ms.map aI) rs)->(es.map (·.1)).Pairwise strLt->A'[q]? =some (.lst (es.map bZ))->A.length<=q->R (.ref q) A')/\(¬qt (ms.map aI) rs->∀A',Gr A A'->R (kG 5) A')))
theorem Pk(T:TopD K mg "_law_ask" JL xQ){a b l:Addr}(j:mg "HangError"=some (.ref a))(k:mg "NoWeights"=some (.ref b))(n:mg "Never"=some (.ref l))
  (L:exmOne K (.ref b) (.ref a)=some true)(O:exmOne K (.ref l) (.ref a)=some true)
  (m:aC P w K mg base 14 "settled" yk (aA mg 2 Er))(d:qm P w K mg base 1 "_law_which" xX (aA mg 1 Ey)):aC P w K mg base 15 "_law_ask" xQ (aA mg 2 mY):=by
 refine lu T KD rfl δ λN RE f Q B outer s H E q hR I ds A R h hl=> ?_
 have hu:=q.units
 have nd:=KD.nd
 obtain⟨p,ar⟩:∃o:Ap,o=[("NoWeights":Str),"Never"]:=⟨_,rfl⟩
 have r:∀c C,c∈p->mg c=some (.ref C)->exmOne K (.ref C) (.ref a)=some true:=λc C hc v=>by
  rw[ar] at hc
  rcases bx.mp hc with rfl|hc
  .rw[k] at v;cases v;exact L
  .rw[bS.mp hc,n] at v;cases v;exact O
 refine⟨_,(aG (OP (i:=2) p rfl rfl rfl nd rfl rfl j r (λM RE pn E I=>(aG (a_ (dL m q I (aa (vr 0) (aa (vr 1) ah)))))) (λM e=>(aG (a_ (Oi d (lZ.of (q.mono ω)) (aa (vr 2) ah))))))),?_⟩
 have z:("NoWeights":Str)∈p:=by rw[ar];simp
 have t:("Never":Str)∈p:=by rw[ar];simp
 obtain⟨x,NN,y,rfl,S,D,F,G,U⟩:=h
 refine⟨rfl,x,NN,y,rfl,S,D,F,G,λms V=> ?_⟩
 obtain⟨a1,a2,W⟩:=U ms V
 refine⟨a1,λX A' g=>⟨z,rfl,.inl ⟨rfl,λJ u=>a2 X _ (g.trans u)⟩⟩,λrs e Y hi=> ?_⟩
 obtain⟨Z,b2⟩:=W rs e Y hi
 refine⟨λq A' g=>⟨t,rfl,.inr ⟨rfl,λJ u=>Z q _ (g.trans u)⟩⟩,λq=> ?_⟩
 obtain⟨c1,c2,c3⟩:=b2 q
 exact⟨c1,c2,λhs A' g=>⟨t,rfl,.inr ⟨rfl,λJ u=>c3 hs _ (g.trans u)⟩⟩⟩
def nZ(t c:Nat)(A A':Ar):Prop:=∀q x,q≠t->q≠c->A[q]?=some x->A'[q]?=some x
theorem nZ.trans{t c:Nat}{A B C:Ar}(a:nZ t c A B)(b:nZ t c B C):nZ t c A C:=λq x h1 h2 h=>b q x h1 h2 (a q x h1 h2 h)
theorem eK.two{t c:Nat}{A A':Ar}(b:eK t A A'):nZ t c A A':=λq x h1 _ h=>b q x h1 h
noncomputable def qz:Nat->Nat
 |0=>0
 |d+1=>5+2*qz d
noncomputable def N5:Ap:=["a","b","c","d","e"]
structure Fw(m:M):Prop where
 arms:m.arms
 deep:m.deep<=2
 nd:m.names.Nodup
 sub:∀x∈m.names,x∈N5
theorem jt:∀n∈N5,Nm n:=λn a=>by
 simp only[N5,bx,iR,iS] at a;rcases a with rfl|rfl|rfl|rfl|rfl<;>exact⟨η,η,η⟩
theorem Fw.wf{m:M}(h:Fw m):Wf m:=⟨h.arms,λx a=>jt x (h.sub x a)⟩
def MB(d:Nat):Ct:=λds A R _=>∃ns t c n ls,ds=[.fl ns,.ref t,.ref c,.int ((d:Int) - 1)]/\0<d/\t≠c/\Tw t n A/\n+qz d<=1000000/\A[c]?=some (.lst (ls.map D.str))/\ls≠[]/\ls.length<=10/\(∀x∈ls,Nm x)/\
 ∀m A' ls',m.arms->m.deep<d->(m.names++ls').Perm ls->nZ t c A A'->Tw t (n+qz d) A'->A'[c]?=some (.lst (ls'.map D.str))->R (enc m) A'
def El(e:Nat):Ct:=λds A R E=>∃d,d<=e/\MB d ds A R E
def D8:Ct:=λds A R _=>∃ns t n,ds=[.fl ns,.ref t]/\Tw t n A/\n+300<=1000000/\∀(ms:Fm) A',1<=ms.length->ms.length<=6->(∀m∈ms,Fw m)->Dr t A A' n 300->R (.tup (ms.map enc)) A'
theorem P6(T:TopD K mg "_law_of" JU xU)(l:mg "len"=none)(m:mg "range"=none)(a:aC P w K mg base 3 "_law_draw" o_ (aA mg 3 l9))(g:aC P w K mg base 4 "_law_pick" qV (aA mg 3 sD)):∀e,aC P w K mg base (e+4) "_law_of" xU (aA mg 4 (El e)):=by
 intro e;induction e with
 |zero=>
  refine tK T λds A R RE h=>?_;obtain⟨d,hd,ns,t,c,n,k,_,h,_⟩:=h;omega
 |succ e b=>
  refine lu T KG rfl δ λN RE f cdv B outer s H E I hR u ds A R h hl=>?_;have hu:=I.units;have nd:=KG.nd;refine⟨_,(aF (cG (PW.pt (iL (jS hu (vr 3) ao) (jo (C0 (eW ia a3 l iE (aa (vr 2) ah)) ao)))) (aG (a_ (bP (aa cH (aa (ig iD PySem.F.slot_list_pop PySem.F.type_list_pop TU Oe (vr 2) (aa (dL a I u (aa (vr 0) (aa (vr 1) (aa (eW ia a3 l iE (aa (vr 2) ah)) ah)))) ah)) ah))))) cJ)
  (aF (s_ none (own:=[κu]) (aw:=[κa,κe]) (ix:=[0,1]) (i:=4) nd rfl (by first|exact Or.inl rfl|exact Or.inr rfl) rfl (AH m (aa ao ah)) (λc=>(pG 0 (η:([κu,κa,κe]:Ap).Nodup))) (λc=>(fC ao (dL a I nD (aa (vr 1) (aa (vr 2) (aa (dL g I nD (aa (vr 1) (aa (vr 2) (aa (dO (aa ao (aa ao (aa ao (aa ao ah))))) ah)))) ah)))))))
  (aF (dS 5 nd (dL b I u (aa (vr 0) (aa (vr 1) (aa (vr 2) (aa (wk (vr 3) ao) ah))))))
  (aF (cG (jS hu (vr 2) (dO ah)) (aG (a_ (vr 5))) cJ)
  (aG (a_ (bP (aa cH (aa (dX hu (vr 4) ao) (aa (dX hu (vr 4) ao) (aa (vr 5) (aa (dL b I u (aa (vr 0) (aa (vr 1) (aa (vr 2) (aa (wk (vr 3) ao) ah))))) ah)))))))))))),?_⟩
  obtain⟨d0,hd0,ns,t,c,n,ls,rfl,hd1,o,ht,hn,M,O,S,U,q⟩:=h;obtain⟨d,rfl⟩:∃d,d0=d+1:=⟨d0 - 1,ω⟩;have hz:(1000000:Nat)<sizeLine:=δ
  have hcs:qz (d+1)=5+2*qz d:=rfl;have V:((d+1:Nat):Int) - 1=(d:Int):=ω
  have l0:0<ls.length:=za.mpr O;have W:(ls.map D.str).length=ls.length:=aM ..;refine cD (λc0=>?lA) (λc0=>oV M (cD (λc2=>?lB) (λc2=>?rd)));case rd=>
   have X:0<d:=by
    have c0:¬(((d+1:Nat):Int) - 1=0):=c0;omega
   have p:∀(x0:D) (J:Ar) (n2:Nat) (Q:DK),Tw t n2 J->n2+2<=1000000->(∀(most:Int) (G:Ar),1<=most->most<=9->eK t J G->Tw t (n2+2) G->Q (.int most) G)->bO sG (dC (D.int 1)) (iK 3 l9 B7 (bE (aX 1) (bE (aX 2) (bE (iK 3 sD B7 (bE (aX 1) (bE (aX 2) (bE (Aw (bE (dC (D.int 1)) (bE (dC (D.int 2)) (bE (dC (D.int 2)) (bE (dC (D.int 9)) dR))))) dR)))) dR)))) [some x0,some (.fl ns),some (.ref t)] J Q:=by
    intro x0 J n2 Q t2 hn2 hQ;obtain⟨Z9,Rx,_⟩:=id t2;have l2:=bQ Rx;refine⟨(δ:4<=sizeLine),rfl,ns,t,_,[.int 1,.int 2,.int 2,.int 9],n2,rfl,ω,aN,θ,t2.gr Gr.push,ω,λx G u b3 t3=>?_⟩;obtain⟨most,rfl,m0,m9⟩:∃k:Int,x=.int k/\1<=k/\k<=9:=by
     simp at u;rcases u with h|h|h<;>exact⟨_,h,ω,ω⟩
    refine⟨rfl,ns,t,most,n2+1,rfl,t3,ω,ω,λi A4 i0 i1 b4 t4=>?_⟩;exact hQ (1+i) A4 ω ω ((Gr.push.but.trans b3).trans b4) t4
   refine⟨δ,δ,trivial,p _ A n _ ht ω λa1 J u1 u2 b2 t2=>⟨(δ:0<sizeLine),trivial,p _ J (n+2) _ t2 ω λa2 G u3 u4 b3 t3=>⟨(δ:1<sizeLine),trivial,?_⟩⟩⟩;have Y:eK t A G:=b2.trans b3;have t4:=t3.gr (Gr.push (T:=[C.lst [D.int a1,D.int a2]]));have h4:=aN (A:=G) (c:=C.lst [D.int a1,D.int a2]);obtain⟨xt,Ry,_⟩:=id t3;have S7:=bQ Ry;have c3:=Y c _ (Ne.symm o) M;have ZI:=bQ c3;have c4:=a4 (T:=[C.lst [D.int a1,D.int a2]]) c3;have e4:[]++[D.int a1]++[D.int a2]=[D.int a1,D.int a2]:=rfl;rw[e4];have MN:nZ t c A (G++[C.lst [D.int a1,D.int a2]]):=(Y.trans Gr.push.but).two;refine⟨rfl,d,ω,ns,t,c,n+2+2,ls,show [D.fl ns,D.ref t,D.ref c,D.int (((d+1:Nat):Int) - 1 - 1)]=_ by rw[V],X,o,t4,ω,c4,O,S,U,λm1 A5 jb w1 d1 p1 b5 t5 c5=>?_⟩;have Z:∀x∈jb,Nm x:=λx u=>U x (p1.mem_iff.mp (jx _ u));refine⟨b_ _,Gb c5 (yy _) (by rw[yC];exact ue _ Z) ?_⟩;have r:Gr A5 (A5++[C.lst []]):=Gr.push;generalize (A5++[C.lst []]:Ar)=A6 at r ⊢;have EG:=(MN.trans b5).trans r.but.two;have GX:=r.get (b5 G.length _ ω ω h4);have t6:=t5.gr r;have c6:=r.get c5;refine cD (λcn=>?_) (λcn=>?_)
   .have:jb=[]:=List.map_eq_nil_iff.mp cn
    subst this;exact q m1 _ [] w1 ω p1 EG (t6.mono ω) c6
   .have ne1:jb≠[]:=λz=>cn (by rw[z];rfl)
    have l1:jb.length<=10:=by
     have:=p1.length_eq;rw[eE] at this;omega
    refine iN GX (v:=.int a1) rfl ?_;refine iN GX (v:=.int a2) rfl ?_;refine⟨rfl,d,ω,ns,t,c,_,jb,show [D.fl ns,D.ref t,D.ref c,D.int (((d+1:Nat):Int) - 1 - 1)]=_ by rw[V],X,o,t6,ω,c6,ne1,l1,Z,λm2 A7 kD w2 d2 p2 b7 t7 c7=>?_⟩;refine⟨(δ:5<=sizeLine),q (.eZ a1 a2 m1 m2) _ kD ⟨u1,u2,u3,u4,w1,w2⟩ (ω:max m1.deep m2.deep+1<d+1) ?_ (EG.trans b7) (t7.mono ω) c7⟩;show((m1.names++m2.names)++kD).Perm ls;rw[append_assoc];exact(Perm.append_left _ p2).trans p1
  all_goals
   refine⟨gn M,oV M ⟨rfl,ns,t,_,n,rfl,ht,ω,by rw[W];omega,λi A1 i0 i1 b1 t1=>?_⟩⟩;rw[W] at i1;obtain⟨j,rfl⟩:∃j:Nat,i=(j:Int):=⟨i.toNat,ω⟩;have hj:j<ls.length:=ω
   have Bp:=b1 c _ (Ne.symm o) M;refine zq9 Bp (k:=j) (y:=.str ls[j]) rfl ω (by rw[bz,aS hj];rfl) ?_;have u:ls[j]∈ls:=jV hj;refine⟨(δ:2<=sizeLine),q (.wt ls[j]) _ (ls.eraseIdx j) trivial (succ_pos _) ?_ (λq x h1 h2 h=>by rw[eF (Ne.symm h2)];exact b1 q x h1 h) ?_ ?_⟩
   .show([ls[j]]++ls.eraseIdx j).Perm ls
    exact(SS.yx ls j _ (aS hj)).symm
   .obtain⟨xs,hx',hl'⟩:=t1
    exact⟨xs,by rw[eF (Ne.symm o)];exact hx',ω⟩
   .rw[eG (bQ Bp)]
    rw[zw,zw,c_,List.map_take,List.map_drop]
theorem PF(T:TopD K mg "_law_hall" JP xS)(p:mg "list"=none)(l:mg "range"=none)(o:mg "tuple"=none)(f:aC P w K mg base 3 "_law_draw" o_ (aA mg 3 l9))(g:aC P w K mg base 4 "_law_pick" qV (aA mg 3 sD))(j:aC P w K mg base 7 "_law_of" xU (aA mg 4 (El 3))):aC P w K mg base 8 "_law_hall" xS (aA mg 2 D8):=by
 refine cg T WC λL hR s hu nd=>⟨_,(aF (dS 2 nd (dO (aa cH (aa cH (aa cH (aa cH (aa cH ah)))))))
  (aF (dS 3 nd (dO ah))
  (aF (d_ dP rfl (AH l (aa (fC ao (dL f L s (aa (vr 0) (aa (vr 1) (aa ao ah))))) ah)) (dG 4 nd) (aF (dS 5 nd (i7 M5 N4 p rY (aa (vr 2) ah)))
  (aF (dS 6 nd (dL g L s (aa (vr 0) (aa (vr 1) (aa (dO (aa ao (aa ao (aa ao (aa ao ah))))) ah)))))
  (aG (f7 (ig iD rO rX oY qB (vr 3) (aa (dL j L s (aa (vr 0) (aa (vr 1) (aa (vr 5) (aa (vr 6) ah))))) ah)))))))
  (aG (a_ (i7 sO sW o lO (aa (vr 3) ah))))))),λds A R h hl=>?_⟩
 obtain⟨ns,t,n,rfl,ht,hn,q⟩:=h;have hz:(1000:Nat)<=sizeLine:=δ
 obtain⟨xt,N,_⟩:=id ht;have S5:=bQ N;have e5:[D.str "a",D.str "b",D.str "c",D.str "d",D.str "e"]=N5.map D.str:=rfl;refine⟨(δ:5<=sizeLine),b_ _,rfl,ns,t,6,n,rfl,(ht.gr Gr.push).gr Gr.push,ω,δ,λi A1 i0 i6 O t1=>?_⟩;have Q:(A++[C.lst (N5.map D.str)]++[C.lst []])[A.length]?=some (.lst (N5.map D.str)):=a4 aN;have S:(A++[C.lst (N5.map D.str)]++[C.lst []])[(A++[C.lst (N5.map D.str)]).length]?=some (.lst []):=aN;have la:(A++[C.lst (N5.map D.str)]).length=A.length+1:=θ
 have U:=O _ _ ω Q;have E:=O _ _ ω S;have V:eK t A A1:=(Gr.push.but.trans Gr.push.but).trans O;rw[la] at E;obtain⟨k,rfl⟩:∃k:Nat,i=(k:Int):=⟨i.toNat,ω⟩;refine⟨ω,ω,?_⟩;rw[(θ:(A++[C.lst [D.str "a",D.str "b",D.str "c",D.str "d",D.str "e"]]).length=A.length+1)];refine dW (λrest τ A'=>∃(ms:Fm) (a b c:Option D),τ=[some (.fl ns),some (.ref t),some (.ref A.length),some (.ref (A.length+1)),a,b,c]/\rest.length+ms.length=k+1/\eK t A A'/\Tw t (n+1+40*ms.length) A'/\A'[A.length]?=some (.lst (N5.map D.str))/\A'[A.length+1]?=some (.lst (ms.map enc))/\∀m∈ms,Fw m) ?_ ?_ ?_ _ _ _ ⟨[],none,none,none,rfl,by simp[gH];omega,V,t1,U,E,λm h=>by cases h⟩
 .intro _ _ _ _
  trivial
 .rintro v rest τ u ⟨ms,a,b,c,rfl,e,W,J,y,r,z⟩ Nx hN
  simp at e;refine S4 y ?_;have X:(u++[C.lst (N5.map D.str)])[u.length]?=some (.lst (N5.map D.str)):=aN;have l2:=bQ r;obtain⟨Z_,F,_⟩:=id J;have ZQ:=bQ F;have g3:Gr u (u++[C.lst (N5.map D.str)]):=Gr.push;refine⟨(δ:4<=sizeLine),rfl,ns,t,_,[.int 0,.int 1,.int 1,.int 2],_,rfl,by simp;omega,aN,θ,(J.gr g3).gr Gr.push,ω,λx A4 s b4 t4=>?_⟩;obtain⟨d,rfl,d2⟩:∃d:Nat,x=.int (((d+1:Nat):Int) - 1)/\d<=2:=by
   simp at s;rcases s with rfl|rfl|rfl
   .exact⟨0,θ,ω⟩
   .exact⟨1,θ,ω⟩
   .exact⟨2,θ,ω⟩
  have B:eK t u A4:=(g3.but.trans Gr.push.but).trans b4;have Y:=b4 u.length _ ω ((Gr.push (T:=[C.lst [D.int 0,D.int 1,D.int 1,D.int 2]])).get X);have G:=B _ _ ω r;have Z:=B _ _ ω y;have cs:qz (d+1)<=35:=by
   have:d=0\/d=1\/d=2:=ω
   rcases this with rfl|rfl|rfl<;>decide
  have n5:N5.length=5:=rfl;refine⟨gn G,rfl,d+1,ω,ns,t,u.length,_,N5,rfl,ω,ω,t4,ω,Y,by simp[N5],ω,jt,λm A5 M ma md mp b5 t5 c5=>?_⟩;have H:=b5 _ _ ω ω G;have Rm:=b5 _ _ ω ω Z;have fw:Fw m:=⟨ma,ω,?_,λx s=>mp.mem_iff.mp (nH _ s)⟩
  .refine qv H (by rw[aM];omega) ?_
   have I:∀(A':Ar) (k:Nat),Tw t k A'->Tw t k (A'.set (A.length+1) (.lst (ms.map enc++[enc m]))):=λA' k ⟨xs,h1,h2⟩=>⟨xs,by rw[eF ω];exact h1,h2⟩;refine hN _ _ ⟨ms++[m],_,_,_,rfl,by simp;omega,λq c hq h=>?_,?_,?_,?_,λm' hm'=>?_⟩
   .have:=bQ h
    rw[eF ω];exact b5 q c hq ω (B q c hq (W q c hq h))
   .exact(I _ _ t5).mono (by simp;omega)
   .rw[eF ω]
    exact Rm
   .rw[eG (bQ H),c_]
    rfl
   .rcases bR.mp hm' with h|h
    .exact z m' h
    .rw[bS.mp h];exact fw
  .have:(m.names++M).Nodup:=mp.nodup_iff.mpr η
   exact(jX.mp this).1
 .rintro τ u ⟨ms,a,b,c,rfl,e,W,J,y,r,z⟩
  simp at e;refine uY r ?_;exact q ms _ ω ω z ⟨W,J.mono ω⟩
theorem By{α β:Type}{f:α->β}:∀{l:List α},(l.map f).Nodup->∀a∈l,∀b∈l,f a=f b->a=b
 |[],_,a,ha,_,_,_=>by cases ha
 |x::l,h,a,ha,b,hb,e=>by
  obtain⟨h1,h2⟩:=kJ.mp (show(f x::l.map f).Nodup from h);rcases bx.mp ha with c|ha<;>rcases bx.mp hb with d|hb
  .rw[c,d]
  .exact absurd (by rw[<-c,e];exact cZ hb) h1
  .exact absurd (by rw[<-d,<-e];exact cZ ha) h1
  .exact By h2 a ha b hb e
theorem Fw.hl{m:M}(h:Fw m):Hl m:=⟨h.wf,by have:=h.deep;omega,Fd _ [] λa c b d e=>by
 rw[fm] at c d;have nd:((cA m "" 1).map (·.2.1)).Nodup:=by rw[rq];exact h.nd
 rw[By nd a c b d e]⟩
theorem oO{ms:Fm}(d:ms.length<=6)(h:∀m∈ms,Fw m):dw (ms.map aI) N5:=by
 refine⟨by rw[aM];omega,λT b=>?_,δ,λT b n c=>?_⟩
 .obtain⟨m,a,rfl⟩:=aP.mp b
  exact(rD (h m a).hl).1
 .obtain⟨m,a,rfl⟩:=aP.mp b
  exact(h m a).sub n (((rD (h m a).hl).2.1 n).mp c)
theorem BB{ms:Fm}(h1:1<=ms.length)(a:ms.length<=6)(h:∀m∈ms,Fw m):gM (.tup (ms.map enc)) ms:=⟨rfl,h1,a,λm b=>(h m b).hl⟩
theorem wM{ms a:Fm}(h:gM (.tup (ms.map enc)) a):a=ms:=(F4 (D.tup.inj h.1)).symm
theorem IW{j k:Nat}(h:j<=k):(9:Int) ^ j<=9 ^ k:=pI (c:=9) δ h
theorem CI:∀(m:M) (x:Rat) (B:Int),m.arms->0<x->(rf x).1<=B->∀s∈m.sh x,(rf s).1<=B*9 ^ m.deep
 |.wt _,x,B,_,h1,h2,s,hs=>by
  have:s=x:=by simpa[cu.sh] using hs
  subst this;simpa[cu.deep] using h2
 |.eZ l r a b,x,B,h,h1,h2,s,hs=>by
  obtain⟨c,p,d,q,e,f⟩:=h;have g:0<B:=rT (cV h1) h2;have np:=cV h1;have i:(rf (x*((r:Rat)/((l+r:Int):Rat)))).1<=B*9:=by
   refine fh (num_mul ω (rH ω ω)) ?_;exact dc h2 ω ω ω
  have j:(rf (x*((l:Rat)/((l+r:Int):Rat)))).1<=B*9:=by
   refine fh (num_mul ω (rH ω ω)) ?_;exact dc h2 ω ω ω
  have n:0<x*((r:Rat)/((l+r:Int):Rat)):=cu.step_pos c d h1;have p2:0<x*((l:Rat)/((l+r:Int):Rat)):=by
   have:=cu.step_pos (l:=r) (r:=l) d c h1;rwa [add_comm r l] at this
  have up:∀k:Nat,k<=max a.deep b.deep->B*9*9 ^ k<=B*9 ^ (max a.deep b.deep+1):=λk o=>by
   rw[jz,mP,nJ 9 (9 ^ k)];refine rV ?_ (dM g);exact zv (IW o) δ
  rcases bR.mp (show s∈a.sh _++b.sh _ from hs) with hs|hs
  .exact fh (CI a _ _ e n i s hs) (up _ (u7 _ _))
  .exact fh (CI b _ _ f p2 j s hs) (up _ (u9 _ _))
theorem Fw.sh{m:M}(h:Fw m){n:Str}(b:n∈m.names):0<shr m n/\(rf (shr m n)).1<=81/\(rf (shr m n)).2<=324:=by
 have a:shr m n∈m.sh 1:=by
  rw[<-(CJ h.hl.bar).2];exact cZ b
 obtain⟨c,d⟩:=cu.yK m 1 1 h.arms δ δ _ a;have e:=CI m 1 1 h.arms δ δ _ a;have p:=qZ h.deep;have q:=IW h.deep;rw[one_mul] at d e;have f:(18:Int) ^ 2=324:=δ
 have g:(9:Int) ^ 2=81:=δ
 exact⟨c,ω,ω⟩
theorem K8{ms:Fm}(h:∀m∈ms,Fw m){s:bC}(g:eO (ms.map aI) s):0<cB (ms.map aI) s/\(rf (cB (ms.map aI) s)).1<=26244/\(rf (cB (ms.map aI) s)).2<=26244:=by
 obtain⟨T,h1,h2,e⟩:=g;unfold cB;rw[jR h1,jR h1];obtain⟨m,b,rfl⟩:=aP.mp (cF h1);have a:=rD (h m b).hl;rw[a.2.2 _ h2,a.2.2 _ e];obtain⟨c,i,j⟩:=(h m b).sh ((a.2.1 _).mp h2);obtain⟨d,k,l⟩:=(h m b).sh ((a.2.1 _).mp e);have p2:=cV c;have n:=cV d;have f:=cj (shr m s.2.1);have o:=cj (shr m s.2.2);refine⟨by rw[rW];exact mS d (vz.mpr c),?_⟩;rw[wu d c];obtain⟨r,t⟩:=rj (dm n f) (dm o p2);have p:(rf (shr m s.2.2)).1*(rf (shr m s.2.1)).2<=81*324:=dc k j (dM f) δ;have q:(rf (shr m s.2.2)).2*(rf (shr m s.2.1)).1<=324*81:=dc l i (dM p2) δ;exact⟨ω,ω⟩
theorem E6{ms:Fm}(h:∀m∈ms,Fw m):∀(r:List bC) (x:Rat) (k:Nat),(∀s∈r,eO (ms.map aI) s)->0<x->(rf x).1<=(26244:Int) ^ k->(rf x).2<=(26244:Int) ^ k->0<r.foldl (λx s=>x*cB (ms.map aI) s) x/\(rf (r.foldl (λx s=>x*cB (ms.map aI) s) x)).1<=(26244:Int) ^ (k+r.length)/\(rf (r.foldl (λx s=>x*cB (ms.map aI) s) x)).2<=(26244:Int) ^ (k+r.length)
 |[],x,k,_,h1,h2,c=>⟨h1,h2,c⟩
 |s::r,x,k,d,h1,h2,c=>by
  obtain⟨pos,g,i⟩:=K8 h (d s (bw ..));have z:(0:Int)<=26244 ^ k:=nL δ;have j:=cV h1;have xd:=cj x;have e:=cV pos;have f:=cj (cB (ms.map aI) s);obtain⟨l,n⟩:=rj (a:=(rf x).1*(rf (cB (ms.map aI) s)).1) (b:=(rf x).2*(rf (cB (ms.map aI) s)).2) (dm j e) (dm xd f);rw[Cz] at l n;have p:(rf x).1*(rf (cB (ms.map aI) s)).1<=26244 ^ k*26244:=dc h2 g (dM e) z;have q:(rf x).2*(rf (cB (ms.map aI) s)).2<=26244 ^ k*26244:=dc c i (dM f) z;have:=E6 h r (x*cB (ms.map aI) s) (k+1) (λy o=>d y (bq _ o)) (mS h1 pos) (by rw[jz];omega) (by rw[jz];omega);rw[iF,iA,(ω:k+(r.length+1)=k+1+r.length)];exact this
theorem GW{ms:Fm}(d:ms.length<=6)(h:∀m∈ms,Fw m):∀P∈bg (ms.map aI),∀n∈au P,kT (bY (ms.map aI) P n):=λP e n f=>by
 have ar:=oO d h;obtain⟨l,b,_,rfl⟩:=gB ar e;have a:=(iw ar b).1;have pm:=jM f;have pl:=a.pl _ pm;have pn:=a.len;have k:N5.length=5:=rfl;obtain⟨o,q,r⟩:=E6 h (cX (aH (ms.map aI) l) n) 1 0 (λs g=>uI _ pm s g) δ (by rw[uN];decide) (by rw[uN];decide);have i:0+(cX (aH (ms.map aI) l) n).length<=4:=by
  simp at pl;omega
 have p:=pI (c:=26244) δ i;have j:((26244:Nat):Int) ^ 4=474373168346071296:=δ
 rw[j] at p;have p:(26244:Int) ^ (0+(cX (aH (ms.map aI) l) n).length)<=474373168346071296:=p;exact⟨o,by show(rf (dH _ _)).1<=_;unfold dH;omega,by show(rf (dH _ _)).2<=_;unfold dH;omega⟩
def Dk(k:Nat)(d:D):Prop:=fS d=true/\(toQ d).canLay0=true/\(toQ d).depth<=k
theorem AK{k:Nat}:∀{xs:Bi},(∀d∈xs,Dk k d)->gb xs=true/\canLayAll0 (bF xs)=true/\depthAll (bF xs)<=k
 |[],_=>⟨rfl,rfl,by simp[bF,depthAll]⟩
 |d::xs,h=>by
  obtain⟨g,i,e⟩:=h d (bw ..);obtain⟨a,b,f⟩:=AK λx c=>h x (bq _ c);refine⟨by show(fS d&&gb xs)=true;rw[g,a];rfl,?_,?_⟩
  .simp[bF,canLayAll0,i,b]
  .simp only[bF,depthAll]
   omega
theorem OH{k:Nat}{xs:Bi}(h:∀d∈xs,Dk k d):Dk (k+1) (.tup xs):=by
 obtain⟨a,b,c⟩:=AK h;refine⟨a,?_,?_⟩
 .show canLay0 (.tuple (bF xs))=true
  simpa[canLay0] using b
 .show PyData.depth (.tuple (bF xs))<=k+1
  simp only[PyData.depth];omega
theorem FT{i:Int}{k:Nat}:Dk k (.int i):=⟨rfl,by simp[toQ,canLay0],by simp[toQ,PyData.depth]⟩
theorem OG{k:Nat}{a b:D}(c:Dk k a)(e:Dk k b):Dk (k+1) (.tup [a,b]):=OH λd hd=>by
 rcases bx.mp hd with rfl|hd
 .exact c
 .rw[bS.mp hd];exact e
theorem PX(T:TopD K mg "_law_leaves" JS uy):∀d,aC P w K mg base (d+1) "_law_leaves" uy (aA mg 2 (zX d)):=by
 intro d;induction d with
 |zero=>
  refine tK T λds A R RE h=>?_;obtain⟨v,⟨m,w,_,h,_⟩,_⟩:=h;omega
 |succ d c=>
  refine lu T WG rfl δ λN RE f k B outer s H E g t i ds A R h hl=>?_;have e:=g.units;refine⟨_,(aF (cG (jS e (dX e (vr 0) ao) cH) (aG (a_ (dO (aa (bP (aa (vr 1) (aa (dX e (vr 0) ao) ah))) ah)))) cJ)
  (aG (a_ (fC (dL c g i (aa (dX e (vr 0) ao) (aa (fC (vr 1) cH) ah))) (dL c g i (aa (dX e (vr 0) ao) (aa (fC (vr 1) cH) ah))))))),?_⟩
  obtain⟨v,⟨m,w,rfl,hd,u,z,rfl⟩,q⟩:=h;have C:(100:Nat)<=sizeLine:=δ
  cases m with
  |wt n=>exact⟨by show 2<=sizeLine;omega,by show 1<=sizeLine;omega,q _ _ Gr.push aN⟩
  |eZ l r a b=>
   have o:max a.deep b.deep+1<d+1:=hd;have D:("l":Str).length=1:=η
   have F:("r":Str).length=1:=η
   have al:∀x y:Str,(x++y).length=x.length+y.length:=λx y=>size_append;refine⟨ω,rfl,_,⟨a,_,rfl,ω,by rw[al];omega,ω,rfl⟩,λG I p h1=>?_⟩;refine⟨ω,rfl,_,⟨b,_,rfl,ω,by rw[al];omega,ω,rfl⟩,λJ L j h2=>?_⟩;have n1:=cu.o4 a;have n2:=cu.o4 b;have M:2 ^ a.deep<=2 ^ 8:=iT δ ω;have p2:2 ^ b.deep<=2 ^ 8:=iT δ ω;have O:(512:Nat)<=sizeLine:=δ
   refine ow (j.get h1) h2 (by rw[aM,aM,xD,xD];omega) (q _ _ ((p.trans j).trans Gr.push) ?_);rw[aN];simp[nB]
def qp:Ct:=vM
def Et(d:Nat):Ct:=λds A R _=>∃(m:M) (u v:Int),ds=[enc m,.int u,.int v]/\m.arms/\m.deep<d/\d<=4/\0<u/\0<v/\u<=9 ^ (4 - d)/\v<=18 ^ (4 - d)/\∀(A':Ar) (q:Nat),Gr A A'->A'[q]?=some (.lst ((m.sh ((u:Rat)/(v:Rat))).map fq))->R (.ref q) A'
def fB(A:Ar):Dx->Bz->Prop
 |[],[]=>True
 |t::ts,T::Ts=>A[t]?=some (.dct (bh T))/\fB A ts Ts
 |_,_=>False
def LO(A:Ar)(r:Nat)(Ts:Bz):Prop:=∃ts,A[r]?=some (.lst (ts.map D.ref))/\fB A ts Ts
theorem fB.gr{A B:Ar}(g:Gr A B):∀{ts:Dx} {Ts:Bz},fB A ts Ts->fB B ts Ts
 |[],[],_=>trivial
 |_::_,_::_,h=>⟨g.get h.1,fB.gr g h.2⟩
 |[],_::_,h=>h.elim
 |_::_,[],h=>h.elim
theorem fB.len{A:Ar}:∀{ts:Dx} {Ts:Bz},fB A ts Ts->ts.length=Ts.length
 |[],[],_=>rfl
 |_::_,_::_,h=>by simp[fB.len h.2]
 |[],_::_,h=>h.elim
 |_::_,[],h=>h.elim
theorem fB.snoc{A:Ar}{t:Nat}{T:Tb}(a:A[t]?=some (.dct (bh T))):∀{ts:Dx} {Ts:Bz},fB A ts Ts->fB A (ts++[t]) (Ts++[T])
 |[],[],_=>⟨a,trivial⟩
 |_::_,_::_,h=>⟨h.1,fB.snoc a h.2⟩
 |[],_::_,h=>h.elim
 |_::_,[],h=>h.elim
theorem fB.cons{A:Ar}{t:Nat}{ts:Dx}{Ts:Bz}(h:fB A (t::ts) Ts):∃T a,Ts=T::a/\A[t]?=some (.dct (bh T))/\fB A ts a:=by
 cases Ts with
 |nil=>exact h.elim
 |cons T a=>exact⟨T,a,rfl,h.1,h.2⟩
def zR:Ct:=λds A R _=>∃ms:Fm,ds=[.tup (ms.map enc)]/\ms.length<=6/\(∀m∈ms,Fw m)/\∀(A':Ar) (q:Nat),Gr A A'->LO A' q (ms.map aI)->A.length<=q->R (.ref q) A'
theorem PV(T:TopD K mg "_law_least" JR pq):aC P w K mg base 1 "_law_least" pq (aA mg 2 qp):=by
 refine cg T WE λu z B C nd=>⟨_,(aF (FW (i:=2) (j:=3) rfl nd rfl rfl δ rfl rfl (aa (vr 0) (aa (vr 1) ah)) rfl)
  (aF (AM dP (Lj (vr 3) ao) (aG (FW (i:=2) (j:=3) rfl nd rfl rfl δ rfl rfl (aa (vr 3) (aa (qC (vr 2) (vr 3)) ah)) rfl)))
  (aG (a_ (bP (aa (oA (vr 0) (vr 2)) (aa (oA (vr 1) (vr 2)) ah))))))),λds A R h hl=>?_⟩
 obtain⟨v,⟨a,b,rfl,o,D,F,rfl⟩,q⟩:=h;have l:0<(Int.gcd a b:Int):=by
  have:=Int.gcd_pos_of_ne_zero_left b (ω:a≠0);omega
 have hl:(Int.gcd a b:Int)<=a:=le_of_dvd o (gcd_dvd_left a b);have m:(Int.gcd a b:Int).natAbs.log2<9000:=by
  have h1:(Int.gcd a b:Int).natAbs<2 ^ 2000:=ω
  have:=(log2_lt (n:=(Int.gcd a b:Int).natAbs) (k:=2000) ω).mpr h1;omega
 refine⟨λn τ A'=>A'=A/\∃(x y:Int),τ=[some (.int a),some (.int b),some (.int x),some (.int y)]/\0<=x/\0<=y/\Int.gcd x y=Int.gcd a b/\n=y.toNat,⟨_,rfl,a,b,rfl,ω,ω,rfl,rfl⟩,?_⟩;rintro n τ A' ⟨rfl,x,y,rfl,h0,h1,f,rfl⟩;refine cD (λc=>?_) (λc=>?_)
 .refine⟨λτ p=>p=A'/\∃(g d:Int),τ=[some (.int a),some (.int b),some (.int g),some (.int d)]/\0<=g/\0<=d/\Int.gcd g d=Int.gcd a b/\d.toNat<y.toNat,λbT A' ⟨e,g,d,h1,h2,r,s,t⟩=>⟨_,t,e,g,d,h1,h2,r,s,rfl⟩,?_⟩
  have m0:=vB x (ω:y≠0);have E:=vA x (ω:0<y);exact⟨c,rfl,y,x%y,rfl,h1,m0,by rw[GL h0 c];exact f,ω⟩
 .have e:y=0:=ω
  subst e;have ex:(x:Int)=(Int.gcd a b:Int):=by rw[<-f,Int.gcd_zero_right];omega
  subst ex;exact⟨⟨l,m⟩,⟨l,m⟩,(δ:2<=sizeLine),q _ Gr.refl⟩
theorem Qg(T:TopD K mg "_law_shares" JX xW)(g:aC P w K mg base 1 "_law_least" pq (aA mg 2 qp)):∀d,aC P w K mg base (d+2) "_law_shares" xW (aA mg 3 (Et d)):=by
 intro d;induction d with
 |zero=>
  refine tK T λds A R RE h=>?_;obtain⟨m,u,v,_,_,h,_⟩:=h;omega
 |succ d e=>
  refine lu T KH rfl δ λN RE f J B outer s H E z hR o ds A R h hl=>?_;have j:=z.units;have nd:=KH.nd;refine⟨_,(aF (cG (jS j (dX j (vr 0) ao) cH) (aG (a_ (dO (aa (dL g z o (aa (vr 1) (aa (vr 2) ah))) ah)))) cJ)
  (aF (dS 3 nd (fC (dX j (vr 0) ao) (dX j (vr 0) ao)))
  (aF (dS 4 nd (dL e z o (aa (dX j (vr 0) ao) (aa (eT (vr 1) (dX j (vr 0) ao)) (aa (eT (vr 2) (vr 3)) ah)))))
  (aG (a_ (fC (vr 4) (dL e z o (aa (dX j (vr 0) ao) (aa (eT (vr 1) (dX j (vr 0) ao)) (aa (eT (vr 2) (vr 3)) ah)))))))))),?_⟩
  obtain⟨m,u,v,rfl,L,hd,h4,k,i,p,t,q⟩:=h;have y:∀x:Int,x<=9 ^ 4->x<2 ^ 2000:=λx o=>pU o (rT (δ:(9 ^ 4:Int)<2 ^ 64) (by
   have:(2:Nat) ^ 64<=2 ^ 2000:=iT δ δ;exact_mod_cast this))
  have hs:(100:Nat)<=sizeLine:=δ
  have D:(9:Int) ^ (4 - d)=9 ^ (4 - (d+1))*9:=by rw[<-jz];congr 1;omega
  have C:(18:Int) ^ (4 - d)=18 ^ (4 - (d+1))*18:=by rw[<-jz];congr 1;omega
  have q9:(9:Int) ^ (4 - (d+1))<=9 ^ 4:=pI (c:=9) δ ω;have O:(18:Int) ^ (4 - d)<=18 ^ 4:=pI (c:=18) δ ω;have Q:(18:Int) ^ 4=104976:=δ
  cases m with
  |wt n=>
   refine⟨rfl,_,⟨u,v,rfl,k,i,y _ ω,rfl⟩,λS F=>⟨(δ:1<=sizeLine),q _ _ (F.trans Gr.push) ?_⟩⟩;rw[yD i];exact aN
  |eZ l r a b=>
   obtain⟨F,U,g3,V,W,X⟩:=L;have Y:max a.deep b.deep+1<d+1:=hd;have Z:u*r<=9 ^ (4 - d):=by rw[D];exact dc p V ω (nL δ)
   have m2:u*l<=9 ^ (4 - d):=by rw[D];exact dc p U ω (nL δ)
   have G:v*(l+r)<=18 ^ (4 - d):=by rw[C];exact dc t ω ω (nL δ)
   refine⟨.inr ⟨ω,ω⟩,.inr ⟨ω,ω⟩,rfl,a,u*r,v*(l+r),rfl,W,ω,ω,dm k ω,dm i ω,Z,G,λS r1 k1 h1=>?_⟩;refine⟨.inr ⟨ω,ω⟩,.inr ⟨ω,ω⟩,rfl,b,u*l,v*(l+r),rfl,X,ω,ω,dm k ω,dm i ω,m2,G,λA2 r2 k2 h2=>?_⟩;have n1:=cu.o4 a;have n2:=cu.o4 b;have p1:2 ^ a.deep<=2 ^ 4:=iT δ ω;have p2:2 ^ b.deep<=2 ^ 4:=iT δ ω;have I:∀(m:M) (x:Rat),(m.sh x).length=m.names.length:=λm x=>by rw[<-uS m "" x,aM,pM]
   refine ow (k2.get h1) h2 (by rw[aM,aM,I,I];omega) (q _ _ ((k1.trans k2).trans Gr.push) ?_);rw[aN];have e1:((u*r:Int):Rat)/((v*(l+r):Int):Rat)=(u:Rat)/(v:Rat)*((r:Rat)/((l+r:Int):Rat)):=mul_div i ω;have e2:((u*l:Int):Rat)/((v*(l+r):Int):Rat)=(u:Rat)/(v:Rat)*((l:Rat)/((l+r:Int):Rat)):=mul_div i ω;rw[e1,e2,<-c_];rfl
theorem Po(T:TopD K mg "_law_books" JM uw)(l:mg "dict"=none)(n:mg "list"=none)(r:mg "zip"=none)(b:aC P w K mg base 9 "_law_leaves" uy (aA mg 2 (zX 8)))(g:aC P w K mg base 5 "_law_shares" xW (aA mg 3 (Et 3))):aC P w K mg base 10 "_law_books" uw (aA mg 1 zR):=by
 refine cg T Wz λV hR W hu nd=>⟨_,(aF (dS 1 nd (dO ah))
  (aF (d_ dP rfl (cz (vr 0)) (dG 2 nd) (aF (s_ (some 2) (own:=[κm,κb]) (aw:=[]) (ix:=[]) (i:=3) nd rfl (by first|exact Or.inl rfl|exact Or.inr rfl) rfl (cz (dL b V W (aa (vr 2) (aa cH ah)))) (λc=>(pF rfl (iP (pG 0 (η:([κm,κb]:Ap).Nodup)) (iP (pG 1 (η:([κm,κb]:Ap).Nodup)) pH)))) (λc=>(vr 1)))
  (aG (f7 (ig iD rO rX oY qB (vr 1) (aa (i7 (vV rfl) v_ l boot_dict (aa (Oq n r rfl (aa (vr 3) (aa (dL g V W (aa (vr 2) (aa ao (aa ao ah)))) ah))) ah)) ah))))))
  (aG (a_ (vr 1))))),λds A R h hl=>?_⟩
 obtain⟨ms,rfl,h6,Y,q⟩:=h;have hz:(1000:Nat)<=sizeLine:=δ
 refine⟨b_ _,?_⟩;refine dW (λrest τ A'=>∃(u a:Fm) (ts:Dx) (G H:Option D),rest=a.map enc/\u++a=ms/\τ=[some (.tup (ms.map enc)),some (.ref A.length),G,H]/\A'[A.length]?=some (.lst (ts.map D.ref))/\fB A' ts (u.map aI)/\Gr A A'/\∀t∈ts,t≠A.length) ?_ ?_ ?_ _ _ _ ⟨[],ms,[],none,none,rfl,rfl,rfl,aN,trivial,Gr.push,λ_ h=>by cases h⟩
 .intro _ _ _ _
  trivial
 .rintro v rest τ z ⟨u,a,ts,G,H,e,j,rfl,h1,E,I,s⟩ Nx Z
  cases a with
  |nil=>cases e
  |cons m a=>
   cases e;have J:=Y m (by rw[<-j];simp);have ln:=o5 (m:=m) (by have:=J.deep;omega);have fd:=J.deep;have lt:=E.len;have ld:=bM List.length j;rw[eE] at ld;rw[aM] at lt;refine⟨rfl,_,⟨m,"",rfl,ω,η,δ,rfl⟩,λL q2 X h2=>?_⟩;refine dB h2 ?_;refine ic (f:=λd=>match d with|.tup [_,y]=>y|d=>d) h2 _ _ (λd hd=>?_) (by simp[xD];omega) ?_
   .obtain⟨p,hp,rfl⟩:=aP.mp hd
    exact⟨[.str p.1,.str p.2],rfl,λQ M=>M⟩
   have en:((nB m "").map BY).map (λd=>match d with|.tup [_,y]=>y|d=>d)=m.names.map D.str:=by
    rw[br,<-uh m "",br];rfl
   rw[fm,en];have h3:(L++[C.lst (m.names.map D.str)])[L.length]?=some (.lst (m.names.map D.str)):=aN;have N:Gr z (L++[C.lst (m.names.map D.str)]):=X.trans Gr.push;have xr:=X.len;have la:=bQ h1;refine⟨gn (N.get h1),rfl,m,1,1,rfl,J.arms,ω,δ,δ,δ,δ,δ,λx q4 F h4=>?_⟩;refine Tg (F.get h3) h4 ?_;have es:m.sh (((1:Int):Rat)/((1:Int):Rat))=(cA m "" 1).map (·.2.2):=by
    rw[uS,(η:((1:Int):Rat)/((1:Int):Rat)=1)]
   have ez:((m.names.map D.str).zip ((m.sh (((1:Int):Rat)/((1:Int):Rat))).map fq)).map (λp=>D.tup [p.1,p.2])=(cA m "" 1).map nC:=by
    rw[es,<-rq m "" 1,br,br,List.zip_map',br];rfl
   rw[ez];have e5:=aN (A:=x) (c:=C.lst ((cA m "" 1).map nC));refine AB e5 (Cf _) (by simp[pM];omega) ?_;have ek:bh (aI m)=pK (((cA m "" 1).map λp=>(p.2.1,fq p.2.2)).map λp=>((Sum.inr p.1:Key),p.2)):=BI _ [];rw[<-ek];have O:=aN (A:=x++[C.lst ((cA m "" 1).map nC)]) (c:=C.dct (bh (aI m)));have o:Gr z (x++[C.lst ((cA m "" 1).map nC)]++[C.dct (bh (aI m))]):=((N.trans F).trans Gr.push).trans Gr.push;have l4:=F.len;have lg:z.length<=x.length:=(N.trans F).len;refine qv (o.get h1) (by simp;omega) ?_;refine Z _ _ ⟨u++[m],a,ts++[(x++[C.lst ((cA m "" 1).map nC)]).length],_,_,rfl,by simpa using j,rfl,?_,?_,(I.trans o).set (aJ _),λt S=>?_⟩
   .rw[eG (bQ (o.get h1)),c_]
    rfl
   .rw[c_]
    have key:∀{ts:Dx} {Ts:Bz} {A B:Ar},fB A ts Ts->(∀t∈ts,∀c,A[t]?=some c->B[t]?=some c)->fB B ts Ts:=by
     intro ts;induction ts with
     |nil=>intro Ts A B h _;cases Ts with|nil=>trivial|cons _ _=>exact h.elim
     |cons t ts ih=>intro Ts A B h k;cases Ts with|nil=>exact h.elim|cons T Ts=>exact⟨k t (bw ..) _ h.1,ih h.2 λt' U=>k t' (bq _ U)⟩
    refine fB.snoc ?_ (key (E.gr o) λt S c hc=>?_)
    .rw[eF (by simp;omega)]
     exact O
    .rw[eF (Ne.symm (s t S))]
     exact hc
   .rcases bR.mp S with h|h
    .exact s t h
    .rw[bS.mp h]
     simp;omega
 .rintro τ z ⟨u,a,ts,G,H,e,j,rfl,h1,E,I,s⟩
  cases a with
  |cons _ _=>cases e
  |nil=>
   have j:u=ms:=by simpa using j
   subst j;exact q _ _ I ⟨ts,h1,E⟩ (aJ _)
structure dN(Ts:Bz)(s:Str)(F:Tb):Prop where
 nd:(af F).Nodup
 st:(s,(1:Rat))∈F
 sub:∀n∈af F,n∈N5
 snd:∀p∈F,∃l,jC Ts s l p.1/\p.2=dH Ts l
 sm:∀(i:Nat) p,F[i]? =some p->0<p.2/\(rf p.2).1<=26244 ^ i/\(rf p.2).2<=26244 ^ i
def kQ(Ts:Bz)(F:Tb):Prop:=∀n∈af F,∀b,lS Ts n b->b∈af F
theorem dN.len{Ts:Bz}{s:Str}{F:Tb}(h:dN Ts s F):F.length<=5:=by
 have:=iu (af F) N5 h.nd h.sub;simpa[af,N5] using this
theorem kH{F:Tb}(h:(af F).Nodup){p:Str×Rat}(b:p∈F):aE F p.1=p.2:=by
 have h1:=find_some (T:=F) (n:=p.1);rw[dg (show p.1∈F.map (·.1) from cZ b)] at h1;obtain⟨q,a⟩:=pQ.mp h1;unfold aE;rw[a];have h2:=r_ a;have e:q=p:=By h q (mO a) p b (fu h2);exact bM (·.2) e
theorem nA{F:Tb}{n:Str}(h:n∈af F):∃x,(n,x)∈F:=by
 obtain⟨p,a,rfl⟩:=aP.mp h;exact⟨p.2,a⟩
theorem dN.pos{Ts:Bz}{s:Str}{F:Tb}(h:dN Ts s F){p:Str×Rat}(d:p∈F):0<p.2/\(rf p.2).1<=474373168346071296/\(rf p.2).2<=474373168346071296:=by
 obtain⟨i,hi,e⟩:=jW d;have l:=h.len;obtain⟨a,b,c⟩:=h.sm i p (by rw[aS hi,e]);have q:=pI (c:=26244) δ (ω:i<=4);have f:((26244:Nat):Int) ^ 4=474373168346071296:=δ
 rw[f] at q;have q:(26244:Int) ^ i<=474373168346071296:=q;exact⟨a,ω,ω⟩
theorem dN.start{Ts:Bz}{s:Str}(h:s∈N5):dN Ts s [(s,1)]:=by
 refine⟨by simp[af],θ,λn b=>?_,λp a=>?_,λi p a=>?_⟩
 .have:n=s:=by simpa[af] using b
  rw[this];exact h
 .rw[bS.mp a]
  exact⟨[],.nil _,rfl⟩
 .cases i with
  |zero=>
   cases a;show 0<(1:Rat)/\(rf 1).1<=_/\(rf 1).2<=_;rw[uN];exact⟨δ,δ,δ⟩
  |succ i=>simp at a
theorem I8{T:Tb}{n:Str}{x:Rat}(h:n∉af T):gG T n x=T++[(n,x)]:=by
 unfold gG;rw[av];intro z;obtain⟨q,a,e⟩:=jZ.mp z;exact h (by rw[<-fu e];exact cZ a)
theorem Yl{Ts:Bz}{T:Tb}(c:T∈Ts){n b:Str}(d:n∈af T)(f:b∈af T):∃s:bC,eO Ts s/\s.2.1=n/\s.2.2=b/\cB Ts s=aE T b/aE T n:=by
 obtain⟨i,hi,e⟩:=jW c;have a:Ts[i]?=some T:=by rw[aS hi,e]
 refine⟨(i,n,b),⟨T,a,d,f⟩,rfl,rfl,?_⟩;unfold cB;rw[jR a,jR a]
theorem dN.add{ms:Fm}(f:∀m∈ms,Fw m){s:Str}{F T:Tb}(h:dN (ms.map aI) s F)(r:T∈ms.map aI){n b:Str}{x:Rat}(t:(n,x)∈F)(E:n∈af T)(u:b∈af T)(g:b∉af F):dN (ms.map aI) s (F++[(b,x*(aE T b/aE T n))]):=by
 obtain⟨st,M,S,U,v⟩:=Yl r E u;obtain⟨o,p2,w⟩:=K8 f M;rw[v] at o p2 w;refine⟨?_,nH _ h.st,λm q=>?_,λp hp=>?_,λi p hp=>?_⟩
 .unfold af
  rw[c_];refine jX.mpr ⟨h.nd,θ,λy G z V=>?_⟩;have:z=b:=by simpa using V
  rw[this];rintro rfl;exact g G
 .have:m∈af F\/m=b:=by simpa[af] using q
  rcases this with q|rfl
  .exact h.sub m q
  .obtain⟨A,d,rfl⟩:=aP.mp r
   exact(f A d).sub _ (((rD (f A d).hl).2.1 _).mp u)
 .rcases bR.mp hp with hp|hp
  .exact h.snd p hp
  .rw[bS.mp hp]
   obtain⟨l,c,e⟩:=h.snd _ t;refine⟨l++[st],.snoc (by rw[S];exact c) M U,?_⟩;rw[qy,v,<-e]
 .by_cases hi:i<F.length
  .rw[iG hi] at hp
   exact h.sm i p hp
  .rw[sf ω] at hp
   have H:i=F.length:=by
    cases e:i - F.length with
    |zero=>omega
    |succ k=>rw[e] at hp;simp at hp
   subst H;simp at hp;subst hp;obtain⟨j,I,J⟩:=jW t;obtain⟨B,K,L⟩:=h.sm j (n,x) (by rw[aS I,J]);have N:=cV B;have xd:=cj x;have C:=cV o;have D:=cj (aE T b/aE T n);obtain⟨O,P⟩:=rj (a:=(rf x).1*(rf (aE T b/aE T n)).1) (b:=(rf x).2*(rf (aE T b/aE T n)).2) (dm N C) (dm xd D);rw[Cz] at O P;have z:(0:Int)<=26244 ^ j:=nL δ;have Q:(rf x).1*(rf (aE T b/aE T n)).1<=26244 ^ j*26244:=dc K p2 (dM C) z;have R:(rf x).2*(rf (aE T b/aE T n)).2<=26244 ^ j*26244:=dc L w (dM D) z;have up:(26244:Int) ^ (j+1)<=26244 ^ F.length:=pI (c:=26244) δ ω;rw[jz] at up;exact⟨mS B o,by show(rf (x*_)).1<=_;omega,by show(rf (x*_)).2<=_;omega⟩
theorem Nf{Ts:Bz}{F:Tb}(hc:kQ Ts F){s:Str}(a:s∈af F){b:Str}(h:dQ Ts s b):b∈af F:=by
 induction h with
 |refl=>exact a
 |step _ e c=>exact hc _ c _ e
theorem dN.stk{Ts:Bz}{s:Str}{F:Tb}(h:dN Ts s F):s∈af F:=aP.mpr ⟨_,h.st,rfl⟩
theorem Yx{Ts:Bz}{s:Str}{F a:Tb}{j:Nat}(h:dN Ts s F)(h':dN Ts s a)(hj:kQ Ts F\/j+1<=F.length)(sub:∀n∈af F,n∈af a)(d:∀T∈Ts,∀n∈af F,n∈af T->∀b∈af T,b∈af a):kQ Ts a\/j+1+1<=a.length:=by
 by_cases hc:kQ Ts F
 .left
  intro n f b e;obtain⟨x,hx⟩:=nA f;obtain⟨l,c,_⟩:=h'.snd _ hx;exact sub _ (Nf hc h.stk (.step c.ri e))
 .right
  have:∃n∈af F,∃b,lS Ts n b/\b∉af F:=Classical.byContradiction λk=>hc λn f b e=>Classical.byContradiction λz=>k ⟨n,f,b,e,z⟩;obtain⟨n,f,b,⟨T,g,t1,i⟩,m⟩:=this;have l:=iu (b::af F) (af a) (kJ.mpr ⟨m,h.nd⟩) λx hx=>by
   rcases bx.mp hx with rfl|hx
   .exact d T g n f t1 _ i
   .exact sub x hx
  simp[af] at l;rcases hj with hj|hj
  .exact absurd hj hc
  .omega
def vL:Ct:=λds A R _=>∃(ms:Fm) (s:Str),ds=[.tup (ms.map enc),.str s]/\ms.length<=6/\(∀m∈ms,Fw m)/\s∈N5/\∀(A':Ar) (q:Nat) (F:Tb),Gr A A'->A'[q]?=some (.dct (bh F))->A.length<=q->dN (ms.map aI) s F->kQ (ms.map aI) F->R (.ref q) A'
def Em:Ct:=λds A R _=>∃x y:Rat,ds=[fq x,fq y]/\0<x/\0<y/\(rf x).1<=474373168346071296/\(rf x).2<=474373168346071296/\(rf y).1<=81/\(rf y).2<=324/\∀A',Gr A A'->R (fq (x/y)) A'
theorem YK{x y z:Rat}(a:0<x)(b:0<y)(e:0<z):(((rf x).1*(rf y).1*(rf z).2:Int):Rat)/(((rf x).2*(rf y).2*(rf z).1:Int):Rat)=x*(y/z):=by
 have h1:=gP (fW (cj x));have h2:=gP (fW (cj y));have c:=gP (fW (cj z));have d:=gP (fW (cV e));conv=>rhs;rw[<-gc x,<-gc y,<-gc z]
 rw[gv,gv,gv,gv];grind
theorem Bb{a b:Int}(c:0<b):D.tup [.int (rd a b).1,.int (rd a b).2]=fq ((a:Rat)/(b:Rat)):=by
 rw[yD c];rfl
theorem Wh{k i:Nat}{v:D}{rest:Bi}(h:v::rest=(gH 0 k).drop i):v=.int ((i:Nat):Int)/\rest=(gH 0 k).drop (i+1)/\i<k:=by
 have l:(gH 0 k).length=k:=by simp[gH]
 have hi:i<k:=by
  have:=bM List.length h;rw[List.length_drop,l] at this;simp at this;omega
 rw[mU ω,List.cons.injEq] at h;refine⟨?_,h.2,hi⟩;rw[h.1];simp[gH]
theorem CK{a:Int}(h:a<=2 ^ 80):a<2 ^ 2000:=pU h (rT (δ:(2 ^ 80:Int)<2 ^ 81) (by
 have:(2:Nat) ^ 81<=2 ^ 2000:=iT δ δ;exact_mod_cast this))
theorem pN{ms:Fm}(a:∀m∈ms,Fw m){T:Tb}(d:T∈ms.map aI){n:Str}(b:n∈af T):0<aE T n/\(rf (aE T n)).1<=81/\(rf (aE T n)).2<=324:=by
 obtain⟨m,c,rfl⟩:=aP.mp d;have h:=rD (a m c).hl;rw[h.2.2 n b];exact(a m c).sh ((h.2.1 n).mp b)
theorem PL(T:TopD K mg "_law_heavy" JQ ux)(E:mg "list"=none)(O:mg "range"=none)(f:aC P w K mg base 10 "_law_books" uw (aA mg 1 zR))(i:aC P w K mg base 1 "_law_least" pq (aA mg 2 qp)):aC P w K mg base 11 "_law_heavy" ux (aA mg 2 vL):=by
 refine cg T WD λhr hR hx G nd=>⟨_,(aF (dS 2 nd (dL f hr hx (aa (vr 0) ah)))
  (aF (dS 3 nd (Fy (vr 1) (bP (aa ao (aa ao ah)))))
  (aF (d_ dP rfl (AH O (aa ao ah)) (dG 4 nd) (aG (d_ dP rfl (cz (vr 2)) (dG 5 nd) (aG (d_ dP rfl (cz (i7 (vW rfl) wc E rY (aa (vr 3) ah))) (dG 6 nd) (aG (d_ dP rfl (cz (i7 (vW rfl) wc E rY (aa (vr 5) ah))) (dG 7 nd) (aG (cG (PW.pt (AN (CY G (vr 6) (vr 5)) (AO (uX G (vr 7) (vr 3))))) (aF (OJ (dX G (vr 3) (vr 6)) (k8 rfl (fK (dG 8 nd) (fK (dG 9 nd) k9))))
  (aF (dS 10 nd (bP (aa (eT (eT (vr 8) (dX G (dX G (vr 5) (vr 7)) ao)) (dX G (dX G (vr 5) (vr 6)) ao)) (aa (eT (eT (vr 9) (dX G (dX G (vr 5) (vr 7)) ao)) (dX G (dX G (vr 5) (vr 6)) ao)) ah))))
  (aG (wz G (vr 3) (vr 7) (dL i hr hx (aa (dX G (vr 10) ao) (aa (dX G (vr 10) ao) ah))) rfl)))) cJ)))))))))
  (aG (a_ (vr 3)))))),λds A R h hl=>?_⟩
 obtain⟨ms,st,rfl,h6,hF,hs,q⟩:=h;have hz:(1000:Nat)<=sizeLine:=δ
 refine⟨rfl,ms,rfl,h6,hF,λk qb g1 hB l1=>?_⟩;obtain⟨ts,eb,hD⟩:=hB;have BX:=hD.len;rw[aM] at BX;have e1:[((Sum.inr st:Key),D.tup [.int 1,.int 1])]=bh [(st,1)]:=by
  show _=[((Sum.inr st:Key),fq 1)];unfold fq;rw[uN]
 have f2:(k++[C.dct [((Sum.inr st:Key),D.tup [.int 1,.int 1])]])[k.length]?=some (.dct (bh [(st,1)])):=by rw[e1];exact aN
 have g2:Gr k (k++[C.dct [((Sum.inr st:Key),D.tup [.int 1,.int 1])]]):=Gr.push;refine⟨(δ:2<=sizeLine),δ,δ,?_⟩;generalize Bq:(k++[C.dct [((Sum.inr st:Key),D.tup [.int 1,.int 1])]]:Ar)=A2 at f2 g2;have ZY:=bQ eb;refine dW (λrest τ A'=>∃(j:Nat) (F:Tb) (x4 x5 x6 H I J d:Option D),j<=6/\rest=(gH 0 6).drop j/\τ=[some (.tup (ms.map enc)),some (.str st),some (.ref qb),some (.ref k.length),x4,x5,x6,H,I,J,d]/\A'[k.length]?=some (.dct (bh F))/\dN (ms.map aI) st F/\(kQ (ms.map aI) F\/j+1<=F.length)/\Gr k A') ?_ ?_ ?_ _ _ _ ⟨0,[(st,1)],none,none,none,none,none,none,none,b_ _,rfl,rfl,f2,dN.start hs,.inr (aJ _),g2⟩
 .intro _ _ _ _
  trivial
 .rintro v rest τ A3 ⟨j,F,x4,x5,x6,H,I,J,d,hj,e,rfl,tV,Q,hc3,g3⟩ Nx hN
  obtain⟨rfl,rfl,hlt⟩:=Wh e;refine dB (g3.get eb) ?_;refine dW (λrest τ A'=>∃(dn s:Bz) (tm:Dx) (o:Tb) (x5 x6 H I J d:Option D),rest=tm.map D.ref/\dn++s=ms.map aI/\fB k tm s/\τ=[some (.tup (ms.map enc)),some (.str st),some (.ref qb),some (.ref k.length),some (.int ((j:Nat):Int)),x5,x6,H,I,J,d]/\A'[k.length]?=some (.dct (bh o))/\dN (ms.map aI) st o/\(∀n∈af F,n∈af o)/\(∀T∈dn,∀n∈af F,n∈af T->∀b∈af T,b∈af o)/\Gr k A') ?_ ?_ ?_ _ _ _ ⟨[],ms.map aI,ts,F,x5,x6,H,I,J,d,rfl,rfl,hD,rfl,tV,Q,λ_ h=>h,λT hT=>(by cases hT),g3⟩
  .rintro rest τ A' ⟨_,_,_,_,_,_,_,_,_,_,_,_,_,_,_,_,_,_,g⟩
   exact g.get eb
  .rintro v rest τ A4 ⟨dn,s,tm,y,y5,y6,y7,y8,y9,LH,e4,L,oM,rfl,S,U,wU,tR,g4⟩ DT Bs
   cases tm with
   |nil=>cases e4
   |cons t tm=>
   cases e4;obtain⟨T,more',rfl,ht,Br⟩:=oM.cons;have hT:T∈ms.map aI:=by rw[<-L];simp
   have tok:=(oO h6 hF).tok T hT;have S6:=bQ ht;refine xA S (ud y) (by have:=U.len;simp[af];omega) ?_;have c5:(A4++[C.lst ((af y).map D.str)])[A4.length]?=some (.lst ((af y).map D.str)):=aN;have ZE:=g4.len;have g5:Gr A4 (A4++[C.lst ((af y).map D.str)]):=Gr.push;refine dB c5 ?_;refine dW (λrest τ A'=>∃(M a:Ap) (o:Tb) (x6 H I J d:Option D),rest=a.map D.str/\M++a=af y/\τ=[some (.tup (ms.map enc)),some (.str st),some (.ref qb),some (.ref k.length),some (.int ((j:Nat):Int)),some (.ref t),x6,H,I,J,d]/\A'[k.length]?=some (.dct (bh o))/\dN (ms.map aI) st o/\(∀n∈af y,n∈af o)/\(∀n∈M,n∈af T->∀b∈af T,b∈af o)/\Gr k A'/\A'[A4.length]?=some (.lst ((af y).map D.str))) ?_ ?_ ?_ _ _ _ ⟨[],af y,y,y6,y7,y8,y9,LH,rfl,rfl,rfl,g5.get S,U,λ_ h=>h,λn hn=>(by cases hn),g4.trans g5,c5⟩
   .rintro rest τ A' ⟨_,_,_,_,_,_,_,_,_,_,_,_,_,_,_,_,h⟩
    exact h
   .rintro v rest τ A6 ⟨M,a,F6,z6,z7,z8,z9,LI,e6,p,rfl,wO,Bw,V,tS,g6,hc6⟩ Zc QU
    cases a with
    |nil=>cases e6
    |cons n a=>
    cases e6;have Ri:n∈af y:=by rw[<-p];simp
    have wW:=g6.get ht;have l6:=bQ hc6;refine xA wW (ud T) (by have:=tok.len;simp[af];omega) ?_;have c7:(A6++[C.lst ((af T).map D.str)])[A6.length]?=some (.lst ((af T).map D.str)):=aN;have g7:Gr A6 (A6++[C.lst ((af T).map D.str)]):=Gr.push;refine dB c7 ?_;refine dW (λrest τ A'=>∃(N c:Ap) (o:Tb) (H I J d:Option D),rest=c.map D.str/\N++c=af T/\τ=[some (.tup (ms.map enc)),some (.str st),some (.ref qb),some (.ref k.length),some (.int ((j:Nat):Int)),some (.ref t),some (.str n),H,I,J,d]/\A'[k.length]?=some (.dct (bh o))/\dN (ms.map aI) st o/\(∀m∈af F6,m∈af o)/\(n∈af T->∀b∈N,b∈af o)/\Gr k A'/\A'[A4.length]?=some (.lst ((af y).map D.str))/\A'[A6.length]?=some (.lst ((af T).map D.str))) ?_ ?_ ?_ _ _ _ ⟨[],af T,F6,z7,z8,z9,LI,rfl,rfl,rfl,g7.get wO,Bw,λ_ h=>h,λ_ b hb=>(by cases hb),g6.trans g7,g7.get hc6,c7⟩
    .rintro rest τ A' ⟨_,_,_,_,_,_,_,_,_,_,_,_,_,_,_,_,h⟩
     exact h
    .rintro v rest τ A8 ⟨N,c,Z,w7,w8,w9,YL,e8,r,rfl,z,u,W,Bu,g8,X,wQ⟩ Mz QV
     cases c with
     |nil=>cases e8
     |cons b c=>
     cases e8;have wN:b∈af T:=by rw[<-r];simp
     have Y:=g8.get ht;have step:∀(H I J d:Option D) (o:Tb) (A':Ar) (bT:bL),bT=[some (.tup (ms.map enc)),some (.str st),some (.ref qb),some (.ref k.length),some (.int ((j:Nat):Int)),some (.ref t),some (.str n),H,I,J,d]->A'[k.length]?=some (.dct (bh o))->dN (ms.map aI) st o->(∀m∈af Z,m∈af o)->(n∈af T->b∈af o)->Gr k A'->A'[A4.length]?=some (.lst ((af y).map D.str))->A'[A6.length]?=some (.lst ((af T).map D.str))->Mz bT A':=λH I J d o A' bT tX k1 k2 k3 k4 k5 k6 k7=>
      QV _ _ ⟨N++[b],c,o,H,I,J,d,rfl,by simpa using r,tX,k1,k2,λm hm=>k3 m (W m hm),λhn b' hb'=>by
       rcases bR.mp hb' with h'|h'
       .exact k3 _ (Bu hn b' h')
       .rw[bS.mp h'];exact k4 hn,k5,k6,k7⟩
     refine oQ Y rfl ?_;rw[av cC,qM];refine cD (λc1=>?_) (λc1=>step _ _ _ _ Z _ _ rfl z u (λ_ h=>h) (λhn=>absurd hn c1) g8 X wQ);refine oQ z rfl ?_;rw[aB rfl,qM];refine cN (λc2=>?_) (λc2=>step _ _ _ _ Z _ _ rfl z u (λ_ h=>h) (λ_=>c2) g8 X wQ);have G9:n∈af Z:=W n (V n Ri);obtain⟨x,tW⟩:=nA G9;have ex:aE Z n=x:=kH u.nd tW;obtain⟨xp,xa,xb⟩:=u.pos tW;obtain⟨bp,ba,bb⟩:=pN hF hT wN;obtain⟨np,na,nb⟩:=pN hF hT c1;have x1:=cV xp;have x2:=cj x;have b1:=cV bp;have b2:=cj (aE T b);have n1:=cV np;have n2:=cj (aE T n);refine gC z rfl (by rw[lz G9,ex]) ?_;have l8:=u.len;have m1:(rf x).1*(rf (aE T b)).1<=474373168346071296*81:=dc xa ba (dM b1) δ;have m2:(rf x).1*(rf (aE T b)).1*(rf (aE T n)).2<=474373168346071296*81*324:=dc m1 nb (dM n2) δ;have k1:0<(rf x).1*(rf (aE T b)).1*(rf (aE T n)).2:=dm (dm x1 b1) n2;have k2:0<(rf x).2*(rf (aE T b)).2*(rf (aE T n)).1:=dm (dm x2 b2) n1;refine⟨rfl,gC Y rfl (lz wN) ⟨.inr ⟨ω,ω⟩,gC Y rfl (lz c1) ⟨.inr ⟨ω,ω⟩,gC Y rfl (lz wN) ⟨.inr ⟨ω,ω⟩,gC Y rfl (lz c1) ⟨.inr ⟨ω,ω⟩,(δ:2<=sizeLine),?_⟩⟩⟩⟩⟩;refine⟨rfl,_,⟨(rf x).1*(rf (aE T b)).1*(rf (aE T n)).2,(rf x).2*(rf (aE T b)).2*(rf (aE T n)).1,rfl,k1,k2,CK ω,rfl⟩,λA9 g9=>?_⟩;have G5:=g9.get z;refine yz G5 rfl (by unfold bh;rw[aM];omega) ?_;have ek:cQ (bh Z) (Sum.inr b) (D.tup [.int (rd ((rf x).1*(rf (aE T b)).1*(rf (aE T n)).2) ((rf x).2*(rf (aE T b)).2*(rf (aE T n)).1)).1,.int (rd ((rf x).1*(rf (aE T b)).1*(rf (aE T n)).2) ((rf x).2*(rf (aE T b)).2*(rf (aE T n)).1)).2])=bh (Z++[(b,x*(aE T b/aE T n))]):=by
      rw[Bb k2,YK xp bp np,<-BJ,I8 c2]
     rw[ek];refine step _ _ _ _ (Z++[(b,x*(aE T b/aE T n))]) _ _ rfl (eG (bQ G5)) (u.add hF hT tW c1 wN c2) (λm hm=>by unfold af at*;rw[c_];exact nH _ hm) (λ_=>by unfold af;rw[c_];exact jx _ θ) ((g8.trans g9).set (aJ _)) ?_ ?_
     .have:=bQ S
      rw[eF ω];exact g9.get X
     .have:=bQ wO
      rw[eF ω];exact g9.get wQ
    .rintro τ A8 ⟨N,c,Z,w7,w8,w9,YL,e8,r,rfl,z,u,W,Bu,g8,X,wQ⟩
     cases c with
     |cons _ _=>cases e8
     |nil=>
      have r:N=af T:=by simpa using r
      subst r;exact QU _ _ ⟨M++[n],a,Z,_,_,_,_,_,rfl,by simpa using p,rfl,z,u,λm hm=>W m (V m hm),λn' hn' B b hb=>by
       rcases bR.mp hn' with h'|h'
       .exact W _ (tS n' h' B b hb)
       .rw[bS.mp h'] at B
        exact Bu B b hb,g8,X⟩
   .rintro τ A6 ⟨M,a,F6,z6,z7,z8,z9,LI,e6,p,rfl,wO,Bw,V,tS,g6,hc6⟩
    cases a with
    |cons _ _=>cases e6
    |nil=>
     have p:M=af y:=by simpa using p
     subst p;exact Bs _ _ ⟨dn++[T],more',tm,F6,_,_,_,_,_,_,rfl,by simpa using L,Br,rfl,wO,Bw,λm hm=>V m (wU m hm),λT' oN n hn B b hb=>by
      rcases bR.mp oN with h'|h'
      .exact V _ (tR T' h' n hn B b hb)
      .rw[bS.mp h'] at B hb
       exact tS n (wU n hn) B b hb,g6⟩
  .rintro τ A4 ⟨dn,s,tm,y,y5,y6,y7,y8,y9,LH,e4,L,oM,rfl,S,U,wU,tR,g4⟩
   cases tm with
   |cons _ _=>cases e4
   |nil=>
    cases s with
    |cons _ _=>exact oM.elim
    |nil=>
     have L:dn=ms.map aI:=by simpa using L
     subst L;exact hN _ _ ⟨j+1,y,_,_,_,_,_,_,_,ω,rfl,rfl,S,U,Yx Q U hc3 wU tR,g4⟩
 .rintro τ A3 ⟨j,F,x4,x5,x6,H,I,J,d,hj,e,rfl,tV,Q,hc3,g3⟩
  have Zn:j=6:=by
   have l:(gH 0 6).length=6:=by simp[gH]
   have:=bM List.length e;rw[List.length_drop,l] at this;simp at this;omega
  have l5:=Q.len;refine q _ _ F (g1.trans g3) tV g1.len Q ?_;rcases hc3 with h|h
  .exact h
  .omega
theorem Qa(T:TopD K mg "_law_ratio" JW xV)(a:aC P w K mg base 1 "_law_least" pq (aA mg 2 qp)):aC P w K mg base 2 "_law_ratio" xV (aA mg 2 Em):=by
 refine cg T WJ λf m g b nd=>⟨_,(aG (a_ (dL a f g (aa (eT (dX b (vr 0) ao) (dX b (vr 1) ao)) (aa (eT (dX b (vr 0) ao) (dX b (vr 1) ao)) ah))))),λds A R h hl=>?_⟩;obtain⟨x,y,rfl,c,d,i,n,o,j,q⟩:=h;have t:=cV c;have u:=cj x;have k:=cV d;have e:=cj y;have p:(rf x).1*(rf y).2<=474373168346071296*324:=dc i j (dM e) δ;have s:0<(rf x).2*(rf y).1:=dm u k;refine⟨.inr ⟨ω,ω⟩,.inr ⟨ω,ω⟩,rfl,_,⟨(rf x).1*(rf y).2,(rf x).2*(rf y).1,rfl,dm t e,s,CK ω,rfl⟩,λr l=>?_⟩;rw[Bb s,<-wu c d];exact q _ l
def sr(Ts:Bz)(F:Tb):Prop:=∀T∈Ts,∀a∈af T,∀b∈af T,a∈af F->b∈af F->aE F a*aE T b=aE F b*aE T a
theorem Gm{α:Type}{p q:α->Bool}:∀{l:List α},(∀x∈l,p x=q x)->l.find? p=l.find? q
 |[],_=>rfl
 |x::l,h=>by
  rw[lQ,lQ,h x (bw ..),Gm λy a=>h y (bq _ a)]
theorem dN.val{Ts:Bz}(d:∀T∈Ts,jm T){w:Str->Rat}(f:Cs Ts w){s:Str}{F:Tb}(h:dN Ts s F){a:Str}(g:a∈af F):aE F a*w s=w a:=by
 obtain⟨x,b⟩:=nA g;obtain⟨l,c,e⟩:=h.snd _ b;rw[kH h.nd b];show x*w s=w a;rw[show x=dH Ts l from e];exact vY d f c
theorem QD{Ts:Bz}(d:∀T∈Ts,jm T){w:Str->Rat}(c:Cs Ts w){s:Str}{F:Tb}(h:dN Ts s F):sr Ts F:=λT e a f b g i j=>by
 have k:=h.val d c i;have l:=h.val d c j;have m:=c.eq T e a f b g;have p:=eY (c.pos s);grind
theorem Nr{Ts:Bz}(h:∀T∈Ts,∃s F,s∈af T/\dN Ts s F/\kQ Ts F/\sr Ts F):∃w,Cs Ts w:=by
 have hc:∀T:Tb,∃F:Tb,T∈Ts->∃s,s∈af T/\dN Ts s F/\kQ Ts F/\sr Ts F:=λT=>by
  by_cases d:T∈Ts
  .obtain⟨s,F,k⟩:=h T d
   exact⟨F,λ_=>⟨s,k⟩⟩
  .exact⟨[],λz=>absurd z d⟩
 obtain⟨f,j⟩:=Classical.axiomOfChoice hc;refine⟨λn=>match Ts.find? (λT=>decide (n∈af (f T))) with|some T=>aE (f T) n|none=>1,λn=>?_,λT d a i b l=>?_⟩
 .cases e:Ts.find? (λT=>decide (n∈af (f T))) with
  |none=>exact(by decide:(0:Rat)<1)
  |some T=>
   have h1:=r_ e;have h1:n∈af (f T):=fu h1;obtain⟨s,_,g,_⟩:=j T (mO e);obtain⟨x,p⟩:=nA h1;show 0<aE (f T) n;rw[kH g.nd p];exact(g.pos p).1
 .have same:Ts.find? (λT=>decide (b∈af (f T)))=Ts.find? (λT=>decide (a∈af (f T))):=Gm λm o=>by
   obtain⟨s,_,g,c,_⟩:=j m o;have:b∈af (f m)↔a∈af (f m):=⟨λz=>c b z a ⟨T,d,l,i⟩,λz=>c a z b ⟨T,d,i,l⟩⟩;simp[this]
  show(match Ts.find? (λT=>decide (a∈af (f T))) with|some T=>aE (f T) a|none=>1)*_=(match Ts.find? (λT=>decide (b∈af (f T))) with|some T=>aE (f T) b|none=>1)*_;rw[same];cases e:Ts.find? (λT=>decide (a∈af (f T))) with
  |none=>
   obtain⟨s,q,g,c,_⟩:=j T d;have:=nS.mp e T d;exact absurd (dg (c s g.stk a ⟨T,d,q,i⟩)) this
  |some T0=>
   have h1:=r_ e;have h1:a∈af (f T0):=fu h1;obtain⟨s,_,g,c,r⟩:=j T0 (mO e);exact r T d a i b l h1 (c a h1 b ⟨T,d,i,l⟩)
theorem Am{α:Type}{k:Option Nat}{fr:bL}{tt:fH}{te:aT}{d:Ar->Prop}{R:Bi->Ar->Prop}(g:α->D)(p:α->Bool)(f:α->D):∀(xs:List α) (ys:Bi) (A:Ar),(∀a,Gr A a->d a)->(∀x∈xs,∀a,Gr A a->∃vs,mF k (g x)=some vs/\(∀Q:Bool->Ar->Prop,(∀b,Gr a b->Q (p x) b)->tt (vs.map some++fr) a Q)/\(p x=true->∀b,Gr a b->∀Q:DK,(∀e,Gr b e->Q (f x) e)->te (vs.map some++fr) b Q))->ys.length+xs.length<=sizeLine->(∀a,Gr A a->R (ys++(xs.filter p).map f) a)->jG d k fr tt te R (xs.map g) ys A
 |[],ys,A,hc,_,_,h=>⟨hc A Gr.refl,by simpa using h A Gr.refl⟩
 |x::xs,ys,A,hc,i,hl,h=>by
  obtain⟨vs,n,o,q⟩:=i x (bw ..) A Gr.refl;refine⟨hc A Gr.refl,?_⟩;rw[n];simp at hl;refine o _ λb c=>?_;cases j:p x with
  |true=>
   rw[Dm j] at h;exact q j b c _ λe l=>⟨ω,Am g p f xs (ys++[f x]) e (λa z=>hc a ((c.trans l).trans z)) (λy m a z=>i y (bq _ m) a ((c.trans l).trans z)) (by simp;omega) λa z=>by simpa using h a ((c.trans l).trans z)⟩
  |false=>
   rw[Dl (by simp[j])] at h;exact Am g p f xs ys b (λa z=>hc a (c.trans z)) (λy m a z=>i y (bq _ m) a (c.trans z)) ω λa z=>h a (c.trans z)
theorem GA{x:Rat}:Dk 1 (fq x):=OG FT FT
theorem Ls:∀xs:Fu,bF (xs.map fq)=xs.map λx=>toQ (fq x)
 |[]=>rfl
 |x::xs=>by simp[bF,Ls xs]
theorem Nj{x:Rat}{xs:Fu}:(bF ((x::xs).map fq)).countP (λz=>PyData.eqv z (toQ (fq x)))=(x::xs).length↔∀y∈x::xs,y=x:=by
 rw[Ls,countP_map,List.countP_eq_length];constructor
 .intro h y a
  have:=h y a;rw[Function.comp_apply,wC] at this;exact fu this
 .intro h y a
  rw[Function.comp_apply,wC];exact dg (h y a)
def DW:Ct:=λds A R _=>∃ms:Fm,ds=[.tup (ms.map enc)]/\ms.length<=6/\(∀m∈ms,Fw m)/\∀b A',(b=true↔∃w,Cs (ms.map aI) w)->Gr A A'->R (.bl b) A'
theorem Pj(T:TopD K mg "_law_agree" JK xP)(E:mg "list"=none)(X:mg "len"=none)(l:aC P w K mg base 10 "_law_books" uw (aA mg 1 zR))(m:aC P w K mg base 11 "_law_heavy" ux (aA mg 2 vL))(o:aC P w K mg base 2 "_law_ratio" xV (aA mg 2 Em)):aC P w K mg base 12 "_law_agree" xP (aA mg 1 DW):=by
 refine cg T Wy λhr hR hx S nd=>⟨_,(aF (dS 1 nd (dL l hr hx (aa (vr 0) ah)))
  (aF (d_ dP rfl (cz (vr 1)) (dG 2 nd) (aF (dS 3 nd (dL m hr hx (aa (vr 0) (aa (dX S (i7 (vW rfl) wc E rY (aa (vr 2) ah)) ao) ah))))
  (aG (d_ dP rfl (cz (vr 1)) (dG 4 nd) (aF (AL none (own:=[κb]) (aw:=[κy,κf]) (ix:=[3,4]) (i:=5) nd rfl (by first|exact Or.inl rfl|exact Or.inr rfl) rfl (cz (i7 (vW rfl) wc E rY (aa (vr 4) ah))) (λc=>(pG 0 (η:([κb,κy,κf]:Ap).Nodup))) (λc=>(CY S (vr 0) (vr 1))) (λc=>(dL o hr nD (aa (dX S (vr 1) (vr 0)) (aa (dX S (vr 2) (vr 0)) ah)))))
  (aG (cG (PW.pt (AN (jv S (vr 5) (dO ah)) (AO (jv S (ig iD PySem.F.slot_list_count PySem.F.type_list_count (TM S) NU (vr 5) (aa (dX S (vr 5) ao) ah)) (eW ia a3 X iE (aa (vr 5) ah)))))) (aG (a_ ie)) cJ)))))))
  (aG (a_ ie)))),λds A R h hl=>?_⟩
 obtain⟨ms,rfl,h6,U,q⟩:=h;have hz:(1000:Nat)<=sizeLine:=δ
 have ok:=oO h6 U;refine⟨rfl,ms,rfl,h6,U,λA1 qb g1 hB l1=>?_⟩;obtain⟨ts,eb,hD⟩:=hB;refine dB eb ?_;refine dW (λrest τ A'=>∃(dn u:Bz) (V:Dx) (x2 x3 x4 J:Option D),rest=V.map D.ref/\dn++u=ms.map aI/\fB A1 V u/\τ=[some (.tup (ms.map enc)),some (.ref qb),x2,x3,x4,J]/\(∀T∈dn,∃s F,s∈af T/\dN (ms.map aI) s F/\kQ (ms.map aI) F/\sr (ms.map aI) F)/\Gr A1 A') ?_ ?_ ?_ _ _ _ ⟨[],ms.map aI,ts,none,none,none,none,rfl,rfl,hD,rfl,λ_ h=>(by cases h),Gr.refl⟩
 .rintro rest τ A' ⟨_,_,_,_,_,_,_,_,_,_,_,_,g⟩
  exact g.get eb
 .rintro v rest τ A2 ⟨dn,u,V,x2,x3,x4,J,e,G,Y,rfl,Z,g2⟩ Nx hN
  cases V with
  |nil=>cases e
  |cons t V=>
  cases e;obtain⟨T0,more',rfl,ht,QO⟩:=Y.cons;have G1:T0∈ms.map aI:=by rw[<-G];simp
  have tok:=ok.tok T0 G1;have lT:(af T0).length<=32:=by have:=tok.len;simp[af];omega
  obtain⟨s0,r0,es⟩:∃s0 r0,af T0=s0::r0:=by
   cases ek:af T0 with
   |nil=>exact absurd (List.map_eq_nil_iff.mp ek) tok.ne
   |cons s0 r0=>exact⟨s0,r0,rfl⟩
  have hs0:s0∈af T0:=by rw[es];simp
  refine xA (g2.get ht) (ud T0) ω ?_;refine iN aN (v:=.str s0) (by rw[es];exact oj (j:=0) rfl) ?_;refine⟨rfl,ms,s0,rfl,h6,U,ok.sub T0 G1 s0 hs0,λA3 q3 F g3 tV l3 hv hcl=>?_⟩;have Qv:Gr A2 A3:=Gr.push.trans g3;have I:=g2.trans Qv;have lF:=hv.len;refine dB (I.get eb) ?_;refine dW (λrest τ A'=>∃(H f:Bz) (B:Dx) (x4 J:Option D),rest=B.map D.ref/\H++f=ms.map aI/\fB A1 B f/\τ=[some (.tup (ms.map enc)),some (.ref qb),some (.ref t),some (.ref q3),x4,J]/\sr H F/\Gr A3 A') ?_ ?_ ?_ _ _ _ ⟨[],ms.map aI,ts,x4,J,rfl,rfl,hD,rfl,λ_ h=>(by cases h),Gr.refl⟩
  .rintro rest τ A' ⟨_,_,_,_,_,_,_,_,_,_,g⟩
   exact g.get (I.get eb)
  .rintro v rest τ W ⟨H,f,B,y4,y5,e4,p,oM,rfl,hG,g4⟩ DT Bs
   cases B with
   |nil=>cases e4
   |cons t' B=>
   cases e4;obtain⟨T,L,rfl,ht',Br⟩:=oM.cons;have hT:T∈ms.map aI:=by rw[<-p];simp
   have tok':=ok.tok T hT;have ZG:(af T).length<=32:=by have:=tok'.len;simp[af];omega
   have Hi:=(I.trans g4).get ht';have G4:=g4.get tV;refine xA Hi (ud T) ω ?_;have c5:(W++[C.lst ((af T).map D.str)])[W.length]?=some (.lst ((af T).map D.str)):=aN;have Be:Gr W (W++[C.lst ((af T).map D.str)]):=Gr.push;refine dB c5 ?_;refine Am D.str (λn=>decide (n∈af F)) (λn=>fq (aE F n/aE T n)) (af T) [] _ (λA' g=>g.get c5) (λn hn A6 g6=>?_) (by simp;omega) (λA6 g6=>?_)
   .refine⟨[.str n],rfl,λQ hQ=>?_,λhp A7 g7 Q hQ=>?_⟩
    .refine oQ ((Be.trans g6).get G4) rfl ?_
     rw[av cC,qM];exact hQ _ Gr.refl
    .have G_:n∈af F:=fu hp
     obtain⟨x,hx⟩:=nA G_;obtain⟨k1,k2,k3⟩:=hv.pos hx;obtain⟨k4,k5,k6⟩:=pN U hT hn;have ex:aE F n=x:=kH hv.nd hx;have M:=(Be.trans g6).trans g7;refine gC (M.get G4) rfl (lz G_) (gC (M.get Hi) rfl (lz hn) ⟨rfl,_,_,rfl,by rw[ex];exact k1,k4,by rw[ex];exact k2,by rw[ex];exact k3,k5,k6,λA8 g8=>hQ _ g8⟩)
   rw[fm];obtain⟨vs,hvs⟩:∃vs,vs=(af T).filter (λn=>decide (n∈af F)):=⟨_,rfl⟩;have N:∀n,n∈vs↔n∈af T/\n∈af F:=λn=>by rw[hvs,nI,jj]
   have emap:((af T).filter (λn=>decide (n∈af F))).map (λn=>fq (aE F n/aE T n))=(vs.map λn=>aE F n/aE T n).map fq:=by rw[hvs,br];rfl
   rw[emap];obtain⟨xs,r⟩:∃xs,xs=vs.map λn=>aE F n/aE T n:=⟨_,rfl⟩;rw[<-r];have h7:=aN (A:=A6) (c:=C.lst (xs.map fq));obtain⟨s1,s2,s3⟩:=AK (k:=1) (xs:=xs.map fq) λd hd=>by
    obtain⟨x,_,rfl⟩:=aP.mp hd;exact GA
   have M:Gr W (A6++[C.lst (xs.map fq)]):=(Be.trans g6).trans Gr.push;have next:∀(J:Option D) (A':Ar) (bT:bL),(∀a∈vs,∀b∈vs,aE F a/aE T a=aE F b/aE T b)->bT=[some (.tup (ms.map enc)),some (.ref qb),some (.ref t),some (.ref q3),some (.ref t'),J]->Gr W A'->DT bT A':=λJ A' bT hall tX g=>Bs _ _ ⟨H++[T],L,B,_,J,rfl,by simpa using p,Br,tX,λT' oN=>by
    rcases bR.mp oN with h'|h'
    .exact hG T' h'
    .rw[bS.mp h']
     intro a ha b hb fa fb;have e1:=hall a ((N a).mpr ⟨ha,fa⟩) b ((N b).mpr ⟨hb,fb⟩);have p1:=eY (pN U hT ha).1;have p2:=eY (pN U hT hb).1;grind,g4.trans g⟩
   refine⟨b_ _,Ik h7 s1 s2 ?_⟩;have h8:=(Gr.push (T:=[C.lst []])).get h7;have O:Gr W (A6++[C.lst (xs.map fq)]++[C.lst []]):=M.trans Gr.push;generalize (A6++[C.lst (xs.map fq)]++[C.lst []]:Ar)=A8 at h8 O ⊢;cases vs with
   |nil=>
    have:xs=[]:=by rw[r];rfl
    subst this;exact next _ _ _ (λa ha=>(by cases ha)) rfl O
   |cons v0 vr=>
   have r:xs=(aE F v0/aE T v0)::vr.map λn=>aE F n/aE T n:=r;refine cN (λc=>?_) (λc=>absurd c (by rw[r];simp));refine⟨gn h8,iN h8 (v:=fq (aE F v0/aE T v0)) (by rw[r];exact oj (j:=0) rfl) ?_⟩;refine Ni h8 s1 rfl s2 GA.2.1 ω ?_;refine oV h8 ?_;rw[aM];have key:=Nj (x:=aE F v0/aE T v0) (xs:=vr.map λn=>aE F n/aE T n);rw[<-r] at key;refine cN (λc=>?_) (λc=>?_)
   .have nk:¬∀y∈xs,y=aE F v0/aE T v0:=λz=>c (by exact_mod_cast key.mpr z)
    refine q false _ ⟨λz=>(by cases z),λ⟨w0,hw0⟩=>absurd (λy hy=>?_) nk⟩ ((g1.trans I).trans (g4.trans O));rw[r] at hy;obtain⟨a,ha,rfl⟩:∃a,a∈v0::vr/\aE F a/aE T a=y:=by
     rcases bx.mp hy with rfl|hy
     .exact⟨v0,bw ..,rfl⟩
     .obtain⟨a,ha,e⟩:=aP.mp hy
      exact⟨a,bq _ ha,e⟩
    have m1:=(N a).mp ha;have m2:=(N v0).mp (bw ..);have e1:=QD ok.tok hw0 hv T hT a m1.1 v0 m2.1 m1.2 m2.2;have p1:=eY (pN U hT m1.1).1;have p2:=eY (pN U hT m2.1).1;grind
   .have ak:=key.mp (by exact_mod_cast c)
    have EA:∀a∈v0::vr,aE F a/aE T a=aE F v0/aE T v0:=λa ha=>ak _ (by
     rw[r];rcases bx.mp ha with rfl|ha
     .exact bw ..
     .exact bq _ (aP.mpr ⟨a,ha,rfl⟩))
    exact next _ _ _ (λa ha b hb=>(EA a ha).trans (EA b hb).symm) rfl O
  .rintro τ W ⟨H,f,B,y4,y5,e4,p,oM,rfl,hG,g4⟩
   cases B with
   |cons _ _=>cases e4
   |nil=>
    cases f with
    |cons _ _=>exact oM.elim
    |nil=>
     have p:H=ms.map aI:=by simpa using p
     subst p;exact hN _ _ ⟨dn++[T0],more',V,_,_,_,_,rfl,by simpa using G,QO,rfl,λT' oN=>by
      rcases bR.mp oN with h'|h'
      .exact Z T' h'
      .rw[bS.mp h']
       exact⟨s0,F,hs0,hv,hcl,hG⟩,I.trans g4⟩
 .rintro τ A2 ⟨dn,u,V,x2,x3,x4,J,e,G,Y,rfl,Z,g2⟩
  cases V with
  |cons _ _=>cases e
  |nil=>
   cases u with
   |cons _ _=>exact Y.elim
   |nil=>
    have G:dn=ms.map aI:=by simpa using G
    subst G;exact q true _ ⟨λ_=>Nr Z,λ_=>rfl⟩ (g1.trans g2)
def Gd(Ts:Bz)(w:Str->Rat)(rs:List (Str×Int)):Prop:=∀p∈rs,∀q∈rs,dQ Ts p.1 q.1->(p.2:Rat)*w q.1=(q.2:Rat)*w p.1
section
variable{Ts:Bz}{NN:Ap}{w:Str->Rat}{rs:List (Str×Int)}
theorem lC(ar:dw Ts NN)(a:Cs Ts w){c n:Str}(b:n∈au (aH Ts c)):bY Ts (aH Ts c) n*w c=w n:=vY ar.tok a (yv _ (jM b))
theorem Bm(ar:dw Ts NN){n:Str}(h:∃T∈Ts,n∈af T):∃f∈NN,aH Ts f∈bg Ts/\n∈au (aH Ts f):=by
 obtain⟨T,c,d⟩:=h;obtain⟨P,b,a⟩:=fG.mp (tO ar c d);obtain⟨k,e,_,rfl⟩:=gB ar b;exact⟨k,e,b,a⟩
theorem rw_mem{P:aU}{p:Str×Int}:p∈e_ rs P↔p∈rs/\p.1∈au P:=by
 unfold e_;rw[nI,jj]
theorem K1(ar:dw Ts NN)(f:Cs Ts w)(l:∀p∈rs,∃T∈Ts,p.1∈af T):qt Ts rs↔Gd Ts w rs:=by
 constructor
 .intro h p j q s m
  obtain⟨D,a,k,d⟩:=Bm ar (l p j);have g:q.1∈au (aH Ts D):=(iO ar a).mpr (((iO ar a).mp d).trans m);have mp:p∈e_ rs (aH Ts D):=rw_mem.mpr ⟨j,d⟩;have t:q∈e_ rs (aH Ts D):=rw_mem.mpr ⟨s,g⟩;cases e:e_ rs (aH Ts D) with
  |nil=>rw[e] at mp;cases mp
  |cons c b=>
   have F:=h _ k c b e p mp;have G:=h _ k c b e q t;have i:=lC ar f d;have n:=lC ar f g;rw[<-F,<-G,<-i,<-n];grind
 .intro h P k c b e p j
  obtain⟨D,a,_,rfl⟩:=gB ar k;have o:c∈e_ rs (aH Ts D):=by rw[e];simp
  obtain⟨H,E⟩:=rw_mem.mp o;obtain⟨u,r⟩:=rw_mem.mp j;have i:=lC ar f E;have n:=lC ar f r;have v:=h c H p u (((iO ar a).mp E).symm.trans ((iO ar a).mp r));have B:=eY (f.pos D);have A:=eY (f.pos c.1);have C:bY Ts (aH Ts D) c.1≠0:=λz=>by rw[z,Rat.zero_mul] at i;exact A i.symm
  unfold fT;rw[<-i,<-n] at v;generalize bY Ts (aH Ts D) c.1=x at*
  generalize bY Ts (aH Ts D) p.1=y at*
  grind
theorem Xh(ar:dw Ts NN)(b:Cs Ts w)(k:∀p∈rs,∃T∈Ts,p.1∈af T)(t:qt Ts rs)(n:Str)(x:Rat):(n,x)∈nE Ts rs↔∃p∈rs,dQ Ts p.1 n/\x=(p.2:Rat)/w p.1*w n:=by
 unfold nE;rw[fG];constructor
 .rintro ⟨P,j,h⟩
  obtain⟨D,a,_,rfl⟩:=gB ar j;unfold gf at h;cases e:e_ rs (aH Ts D) with
  |nil=>rw[e] at h;cases h
  |cons c d=>
   rw[e] at h;obtain⟨m,r,em⟩:=aP.mp h;have u:m=n:=bM Prod.fst em;subst u;have v:x=fT (bY Ts (aH Ts D)) c*bY Ts (aH Ts D) m:=(bM Prod.snd em).symm;rw[v];have l:c∈e_ rs (aH Ts D):=by rw[e];simp
   obtain⟨F,E⟩:=rw_mem.mp l;have f:=lC ar b E;have o:=lC ar b r;have A:=eY (b.pos D);have q:=eY (b.pos c.1);have B:bY Ts (aH Ts D) c.1≠0:=λz=>by rw[z,Rat.zero_mul] at f;exact q f.symm
   refine⟨c,F,((iO ar a).mp E).symm.trans ((iO ar a).mp r),?_⟩;unfold fT;rw[<-f,<-o];generalize bY Ts (aH Ts D) c.1=y at*
   generalize bY Ts (aH Ts D) m=z at*
   grind
 .rintro ⟨p,s,C,rfl⟩
  obtain⟨D,a,j,g⟩:=Bm ar (k p s);have i:n∈au (aH Ts D):=(iO ar a).mpr (((iO ar a).mp g).trans C);have mp:p∈e_ rs (aH Ts D):=rw_mem.mpr ⟨s,g⟩;refine⟨_,j,?_⟩;unfold gf;cases e:e_ rs (aH Ts D) with
  |nil=>rw[e] at mp;cases mp
  |cons c d=>
   have G:=t _ j c d e p mp;have f:=lC ar b g;have o:=lC ar b i;have A:=eY (b.pos D);have q:=eY (b.pos p.1);have B:bY Ts (aH Ts D) p.1≠0:=λz=>by rw[z,Rat.zero_mul] at f;exact q f.symm
   refine aP.mpr ⟨n,i,?_⟩;congr 1;rw[<-G,<-f,<-o];generalize bY Ts (aH Ts D) p.1=y at*
   generalize bY Ts (aH Ts D) n=z at*
   grind
theorem V1{D:Tb}{n:Str}{x:Rat}(hd:(af D).Nodup)(b:n∈af D)(d:aE D n=x):gG D n x=D:=by
 unfold gG;rw[aB (by
  obtain⟨p,a,e⟩:=aP.mp b;exact jZ.mpr ⟨p,a,dg e⟩)]
 conv=>rhs;rw[<-map_id D]
 refine mL λp a=>?_;by_cases c:p.1=n
 .rw[aB c,<-d,<-c,kH hd a]
  rfl
 .rw[av c]
  rfl
theorem K2{D:Tb}{n m:Str}{x:Rat}(hd:(af (D++[(n,x)])).Nodup)(c:m∈af D):aE (D++[(n,x)]) m=aE D m:=by
 have a:(af D).Nodup:=by
  unfold af at hd ⊢;rw[c_] at hd;exact(jX.mp hd).1
 obtain⟨p,b,rfl⟩:=aP.mp c;rw[kH a b,kH hd (bR.mpr (.inl b))]
structure Du(Ts:Bz)(w:Str->Rat)(dn:List (Str×Int))(D:Tb):Prop where
 nd:(af D).Nodup
 mem:∀n,n∈af D↔∃p∈dn,dQ Ts p.1 n
 val:∀p∈dn,∀n,dQ Ts p.1 n->aE D n=(p.2:Rat)/w p.1*w n
structure lV(Ts:Bz)(w:Str->Rat)(dn:List (Str×Int))(p:Str×Int)(done:Ap)(D:Tb):Prop where
 nd:(af D).Nodup
 mem:∀n,n∈af D↔(∃q∈dn,dQ Ts q.1 n)\/n∈done
 val:∀q∈dn,∀n,dQ Ts q.1 n->aE D n=(q.2:Rat)/w q.1*w n
 va:∀n∈done,aE D n=(p.2:Rat)/w p.1*w n
theorem Du.gd{a:List (Str×Int)}{D:Tb}(b:Cs Ts w)(h:Du Ts w a D):Gd Ts w a:=λp c q d e=>by
 have h1:=h.val p c q.1 e;have h2:=h.val q d q.1 (.refl _);rw[h1] at h2;have f:=eY (b.pos p.1);have g:=eY (b.pos q.1);grind
theorem Du.start{a:List (Str×Int)}{D:Tb}{p:Str×Int}(h:Du Ts w a D):lV Ts w a p [] D:=⟨h.nd,λn=>by rw[h.mem];simp,h.val,λn b=>by cases b⟩
theorem lV.fin{b:List (Str×Int)}{D:Tb}{p:Str×Int}{done:Ap}(h:lV Ts w b p done D)(c:∀n,n∈done↔dQ Ts p.1 n):Du Ts w (b++[p]) D:=by
 refine⟨h.nd,λn=>?_,λq a n hr=>?_⟩
 .rw[h.mem,c]
  constructor
  .rintro (⟨q,a,hr⟩|hr)
   .exact⟨q,bR.mpr (.inl a),hr⟩
   .exact⟨p,θ,hr⟩
  .rintro ⟨q,a,hr⟩
   rcases bR.mp a with z|z
   .exact .inl ⟨q,z,hr⟩
   .rw[bS.mp z] at hr;exact .inr hr
 .rcases bR.mp a with z|z
  .exact h.val q z n hr
  .rw[bS.mp z] at hr ⊢
   exact h.va n ((c n).mpr hr)
theorem lV.step{g:List (Str×Int)}{D:Tb}{p:Str×Int}{done:Ap}{n:Str}(h:lV Ts w g p done D)(hd:n∉done)(i:n∈af D->aE D n=(p.2:Rat)/w p.1*w n):lV Ts w g p (done++[n]) (gG D n ((p.2:Rat)/w p.1*w n)):=by
 by_cases c:n∈af D
 .rw[V1 h.nd c (i c)]
  refine⟨h.nd,λm=>?_,h.val,λm f=>?_⟩
  .rw[h.mem,bR,bS]
   constructor
   .rintro (z|z)
    .exact .inl z
    .exact .inr (.inl z)
   .rintro (z|z|rfl)
    .exact .inl z
    .exact .inr z
    .exact(h.mem m).mp c
  .rcases bR.mp f with z|z
   .exact h.va m z
   .rw[bS.mp z];exact i c
 .rw[I8 c]
  have j:af (D++[(n,(p.2:Rat)/w p.1*w n)])=af D++[n]:=by unfold af;rw[c_];rfl
  have d:(af (D++[(n,(p.2:Rat)/w p.1*w n)])).Nodup:=by
   rw[j];refine jX.mpr ⟨h.nd,θ,λa o b r e=>?_⟩;rw[bS.mp r] at e;exact c (e▸o)
  refine⟨d,λm=>?_,λq k m l=>?_,λm f=>?_⟩
  .rw[j,bR,bR,h.mem,bS,or_assoc]
  .rw[K2 d ((h.mem m).mpr (.inl ⟨q,k,l⟩))]
   exact h.val q k m l
  .rcases bR.mp f with z|z
   .rw[K2 d ((h.mem m).mpr (.inr z))]
    exact h.va m z
   .rw[bS.mp z]
    exact kH d (p:=(n,(p.2:Rat)/w p.1*w n)) θ
theorem lV.no{b rs:List (Str×Int)}{D:Tb}{p:Str×Int}{done:Ap}{n:Str}(c:Cs Ts w)(h:lV Ts w b p done D)(hd:n∉done)(e:n∈af D)(f:dQ Ts p.1 n)(g:aE D n≠(p.2:Rat)/w p.1*w n)(h1:∀q∈b,q∈rs)(h2:p∈rs):¬Gd Ts w rs:=λi=>by
 rcases (h.mem n).mp e with⟨q,d,a⟩|z
 .refine g ?_
  rw[h.val q d n a];have k:=i p h2 q (h1 q d) (f.trans a.symm);have j:=eY (c.pos p.1);have l:=eY (c.pos q.1);grind
 .exact hd z
end
theorem XE(a b:Str):strLt a b\/a=b\/strLt b a:=by
 by_cases h1:a.cps.toList<b.cps.toList
 .exact .inl h1
 .by_cases h2:b.cps.toList<a.cps.toList
  .exact .inr (.inr h2)
  .refine .inr (.inl ?_)
   have e:a.cps.toList=b.cps.toList:=le_antisymm (kK.mp h2) (kK.mp h1);obtain⟨⟨a⟩⟩:=a;obtain⟨⟨b⟩⟩:=b;simp at e;rw[e]
theorem Lf{a b c:Str}(h:strLt a b)(k:strLt b c):strLt a c:=vv (show a.cps.toList<b.cps.toList from h) (show b.cps.toList<c.cps.toList from k)
theorem Ht(a:Str):∀ys:Ap,ys.Pairwise strLt->∃zs:Ap,zs.Pairwise strLt/\∀x,x∈zs↔x=a\/x∈ys
 |[],_=>⟨[a],θ,λx=>θ⟩
 |y::r,h=>by
  obtain⟨h1,h2⟩:=iC.mp h;rcases XE a y with c|c|c
  .refine⟨a::y::r,iC.mpr ⟨λx hx=>?_,h⟩,λx=>θ⟩
   rcases bx.mp hx with rfl|hx
   .exact c
   .exact Lf c (h1 x hx)
  .subst c
   exact⟨a::r,h,λx=>θ⟩
  .obtain⟨zs,d,b⟩:=Ht a r h2
   refine⟨y::zs,iC.mpr ⟨λx hx=>?_,d⟩,λx=>?_⟩
   .rcases (b x).mp hx with rfl|hx
    .exact c
    .exact h1 x hx
   .rw[bx,bx,b x]
    constructor
    .rintro (h|h|h)
     .exact .inr (.inl h)
     .exact .inl h
     .exact .inr (.inr h)
    .rintro (h|h|h)
     .exact .inr (.inl h)
     .exact .inl h
     .exact .inr (.inr h)
theorem AV:∀ns:Ap,∃ys:Ap,ys.Pairwise strLt/\∀x,x∈ys↔x∈ns
 |[]=>⟨[],Pairwise.nil,λx=>Iff.rfl⟩
 |a::ns=>by
  obtain⟨ys,h1,h2⟩:=AV ns;obtain⟨zs,b,c⟩:=Ht a ys h1;exact⟨zs,b,λx=>by rw[c,h2,bx]⟩
theorem Y6{ys:Ap}{s:Str->Rat}{rs:List (Str×Int)}(t:(rs.map (·.1)).Nodup)(b:∀p∈ys.zip (lw (ys.map s)),p∈rs)(u:∀y∈ys,0<s y)(m:ys≠[]):
  (∀y∈ys,0<val rs y)/\(∀d:Int,(∀y∈ys,d∣val rs y)->d∣1)/\∃c:Rat,0<c/\∀y∈ys,(val rs y:Rat)=c*s y:=by
 have hl:(lw (ys.map s)).length=ys.length:=by rw[H8,aM]
 have g:∀x∈ys.map s,0<x:=λx a=>by
  obtain⟨y,v,rfl⟩:=aP.mp a;exact u y v
 have f:ys.map s≠[]:=λz=>m (by simpa using z);have row:∀x∈ys,∃i,∃k,ys[i]?=some x/\(lw (ys.map s))[i]?=some k/\val rs x=k:=λx a=>by
  obtain⟨i,hi,e⟩:=jW a;have j:ys[i]?=some x:=by rw[aS hi,e]
  have h:(lw (ys.map s))[i]?=some ((lw (ys.map s))[i]' ω):=aS _;have o:(ys.zip (lw (ys.map s)))[i]?=some (x,(lw (ys.map s))[i]' ω):=sj.mpr ⟨j,h⟩;exact⟨i,_,j,h,LD t (b _ (cF o))⟩
 refine⟨λx a=>?_,λk w=>?_,?_⟩
 .obtain⟨i,k,_,h,q⟩:=row x a
  rw[q];exact Te g k (cF h)
 .refine Td g f λn r=>?_
  obtain⟨i,hi,e⟩:=jW r;have a:ys[i]?=some (ys[i]' ω):=aS _;have o:(ys.zip (lw (ys.map s)))[i]?=some (ys[i]' ω,n):=sj.mpr ⟨a,by rw[aS hi,e]⟩;have:=w _ (cF a);rw[LD t (b _ (cF o))] at this;exact this
 .obtain⟨c,hc,e⟩:=Tf g f
  refine⟨c,hc,λx a=>?_⟩;obtain⟨i,k,j,h,q⟩:=row x a;rw[q];have z:=bM (λl=>l[i]?) e;simp only[bz,h,j,map_some] at z;exact Option.some.inj z
theorem Yn{Ts:Bz}{NN:Ap}(ar:dw Ts NN){rs:List (Str×Int)}(g:rs.Perm (pO Ts)){P:aU}(b:P∈bg Ts):
  (∀y∈au P,0<val rs y)/\(∀d:Int,(∀y∈au P,d∣val rs y)->d∣1)/\∃c:Rat,0<c/\∀y∈au P,(val rs y:Rat)=c*bY Ts P y:=by
 have a:∀P∈bg Ts,∃ys:Ap,ys.Pairwise strLt/\∀x,x∈ys↔x∈au P:=λP _=>AV _;obtain⟨t1,l⟩:=yP (Ts:=Ts) (oJ ar) a;have h:(rs.map (·.1)).Nodup:=(g.map (·.1)).nodup_iff.mpr t1;obtain⟨n1,n2,n3⟩:=Lo (Ts:=Ts) (a P b);obtain⟨k,i,_,rfl⟩:=gB ar b;have e:k∈au (aH Ts k):=(iO ar i).mpr (.refl _);have:=Y6 (ys:=jU (au (aH Ts k))) (s:=bY Ts (aH Ts k)) h (λp f=>g.mem_iff.mpr (fG.mpr ⟨_,b,f⟩)) (λy j=>(Aq ar.tok (uI _ (jM ((n3 y).mp j)))).1) (λz=>by
  have:=(n3 k).mpr e;rw[z] at this;cases this)
 simp only[n3] at this;exact this
theorem C2{Ts:Bz}{NN:Ap}(ar:dw Ts NN){rs:List (Str×Int)}(e:rs.Perm (pO Ts))(x:Str):x∈rs.map (·.1)↔∃T∈Ts,x∈af T:=by
 obtain⟨t1,f⟩:=yP (Ts:=Ts) (oJ ar) λP _=>AV _;rw[(e.map (·.1)).mem_iff];refine(f x).trans ⟨λh=>?_,λ⟨T,b,c⟩=>tO ar b c⟩;obtain⟨P,g,c⟩:=fG.mp h;obtain⟨k,i,⟨T,b,d⟩,rfl⟩:=gB ar g;have r:=(iO ar i).mp c;cases r with
 |refl=>exact⟨T,b,d⟩
 |step _ a=>
  obtain⟨j,h1,h2,l⟩:=a;exact⟨j,h1,l⟩
theorem AY{ms:Fm}(a:∀m∈ms,Fw m):∀ls:Fm,(∀m∈ls,m∈ms)->(ls.flatMap cu.names).length<=5*ls.length
 |[],_=>by simp
 |m::ls,b=>by
  have i1:=AY a ls λx d=>b x (bq _ d);have c:=a m (b m (bw ..));have i2:m.names.length<=5:=by have:=iu m.names N5 c.nd c.sub;simpa[N5] using this
  rw[nU,eE,iA];omega
theorem Ak{k:Option Nat}{fr:bL}{tt:fH}{te:aT}{b:Ar->Prop}{R:Bi->Ar->Prop}(J:Bi->Bi->Ar->Prop)(hc:∀rest ys A,J rest ys A->b A)
  (d:∀x rest ys A,J (x::rest) ys A->∃vs,mF k x=some vs/\∀Q:Bool->Ar->Prop,(∀a,(∀f:DK,(∀y c,ys.length<sizeLine->J rest (ys++[y]) c->f y c)->te (vs.map some++fr) a f)->Q true a)->(∀a,J rest ys a->Q false a)->tt (vs.map some++fr) A Q)(hl:∀rest ys A,J rest ys A->ys.length<sizeLine)(e:∀ys A,J [] ys A->R ys A):∀items ys A,J items ys A->jG b k fr tt te R items ys A
 |[],ys,A,j=>⟨hc _ _ _ j,e _ _ j⟩
 |x::rest,ys,A,j=>by
  obtain⟨vs,g,q⟩:=d _ _ _ _ j;refine⟨hc _ _ _ j,?_⟩;rw[g];refine q _ (λa h2=>?_) λa h=>Ak J hc d hl e rest ys a h;exact h2 _ λy c l i=>⟨hl _ _ _ j,Ak J hc d hl e rest _ c i⟩
theorem K0{a b:cT}{K:lU}{τ:bL}{A:Ar}(J:bL->Ar->Prop)(c:∀τ A,J τ A->b K τ A)(d:(∀τ A,J τ A->b K τ A)->gI a b K τ A):gI a b K τ A:=d c
structure Nh(t q:Nat)(ms:Fm)(n:Nat)(ys:Ap)(A:Ar):Prop where
 tw:Tw t n A
 ne:q≠t
 at_:A[q]? =some (.lst (ys.map D.str))
theorem T4{A:Ar}{r:Nat}{x:Str}{ys:Ap}{R:DK}(h:A[r]?=some (.lst (ys.map D.str)))(a:x∉ys)(k:R (.bl true) A):inR true (.str x) r A R:=by
 unfold inR;rw[h];refine⟨rfl,?_,?_⟩
 .rw[List.all_map,nP]
  intro y _;rfl
 .have e:ni (.str x) (ys.map D.str)=false:=by
   rw[Bool.eq_false_iff];intro z;unfold ni at z;rw[any_map,jZ] at z;obtain⟨y,b,e⟩:=z;have e:decide (y=x)=true:=e;exact a (by rw[<-fu e];exact b)
  rw[e];exact k
theorem Uh{A:Ar}{x:D}{rl:Nat}{lo n0:Str}{Ts:Bz}{xs:Bi}(l:x∈([.aD,.ref rl,.tup [.tup [.str lo,.int 1]],.tup [.tup [.str n0,.int 0]],.tup [.tup [.str n0,.bl true]],.str "a",.tup [.tup [.str n0,.int 1],.tup [.str n0,.int 1]],.tup [.tup [.str n0,.int 1000000]]]:Bi))(i:∀T∈Ts,lo∉af T)(n:Nm n0)(hl:Nm lo)(o:A[rl]?=some (.lst xs)):
  cY A x=true/\rz x/\¬∃rs,x=dY rs/\j_ rs/\∀p∈rs,∃T∈Ts,p.1∈af T:=by
 have one:∀(a:Str) (d:D) (rs:List (Str×Int)),(.tup [.tup [.str a,d]]:D)=dY rs->∃k,rs=[(a,k)]/\d=.int k:=λa d rs e=>by
  have e:=D.tup.inj e;match rs,e with
  |[p],e=>
   have h:(.tup [.str a,d]:D)=aR p:=by simpa using e
   have c:=D.tup.inj h;have q:a=p.1:=by
    have:=(List.cons.inj c).1;injection this
   have r:d=.int p.2:=by
    have:=(List.cons.inj (List.cons.inj c).2).1;exact this
   exact⟨p.2,by rw[q],r⟩
  |[],e=>cases e
  |_::_::_,e=>simp at e
 have b:cY A (.str n0)=true:=Ca n;have g:cY A (.str lo)=true:=Ca hl;simp only[bx,iR,iS] at l;rcases l with rfl|rfl|rfl|rfl|rfl|rfl|rfl|rfl
 .exact⟨rfl,(λxs e=>by cases e),λ⟨rs,e,_⟩=>by cases e⟩
 .refine⟨by unfold cY;rw[o],(λxs e=>by cases e),λ⟨rs,e,_⟩=>by cases e⟩
 .refine⟨by simp[cY,gE] at g ⊢;exact g,(λxs e=>by cases e;simp),λ⟨rs,e,_,hi⟩=>?_⟩
  obtain⟨k,rfl,_⟩:=one _ _ _ e;obtain⟨T,s,j⟩:=hi (lo,k) θ;exact i T s j
 .refine⟨by simp[cY,gE] at b ⊢;exact b,(λxs e=>by cases e;simp),λ⟨rs,e,f,_⟩=>?_⟩
  obtain⟨k,rfl,c⟩:=one _ _ _ e;cases c;have h0:(1:Int)<=0:=(f.no (n0,0) θ).1;omega
 .refine⟨by simp[cY,gE] at b ⊢;exact b,(λxs e=>by cases e;simp),λ⟨rs,e,f,_⟩=>?_⟩
  obtain⟨k,rfl,c⟩:=one _ _ _ e;cases c
 .exact⟨by unfold cY;decide+kernel,(λxs e=>by cases e),λ⟨rs,e,_⟩=>by cases e⟩
 .refine⟨by simp[cY,gE] at b ⊢;exact b,(λxs e=>by cases e;simp),λ⟨rs,e,f,_⟩=>?_⟩
  have e:=D.tup.inj e;match rs,e with
  |[p,m],e=>
   have h:(.tup [.str n0,.int 1]:D)=aR p/\(.tup [.str n0,.int 1]:D)=aR m:=by simpa using e
   have t:n0=p.1:=by
    have:=(List.cons.inj (D.tup.inj h.1)).1;injection this
   have u:n0=m.1:=by
    have:=(List.cons.inj (D.tup.inj h.2)).1;injection this
   have:=f.up;rw[cM,cM,<-t,<-u] at this;exact uV ((iC.mp this).1 n0 θ) rfl
  |[],e=>cases e
  |[_],e=>simp at e
  |_::_::_::_,e=>simp at e
 .refine⟨by simp[cY,gE] at b ⊢;exact b,(λxs e=>by cases e;simp),λ⟨rs,e,f,_⟩=>?_⟩
  obtain⟨k,rfl,c⟩:=one _ _ _ e;cases c;have h0:(1000000:Int)<=999999:=(f.no (n0,1000000) θ).2;omega
noncomputable def vC:D->D
 |.str c=>.str (("zz":Str)++c)
 |d=>d
theorem OC{rs:List (Str×Int)}(a:(rs.map (·.1)).Pairwise strLt)(hl:rs.length<=1000){A:Ar}{R:DK}(k:R (.ref A.length) (A++[.dct (gD rs)])):dctP (rs.map aR) A R:=by
 unfold dctP;rw[IF];refine⟨by simp[gD];omega,?_⟩;unfold pK;rw[I9 rs [] a (λp h=>by simp at h)];exact k
theorem Um{A:Ar}{r:Str×Int}(h:Nm r.1):cY A (aR r)=true:=by
 show(cY A (.str r.1)&&(true&&true))=true;rw[Ca h];rfl
theorem IA{A:Ar}:∀{rs:List (Str×Int)},(∀r∈rs,Nm r.1)->cY A (dY rs)=true:=λ {rs} h=>by
 show gE A (rs.map aR)=true;induction rs with
 |nil=>rfl
 |cons r rs a=>
  show(cY A (aR r)&&gE A (rs.map aR))=true;rw[Um (h r (bw ..)),a λq b=>h q (bq _ b)];rfl
theorem Y7{c:Nat}(h1:97<=c)(h2:c<=122):Nm (("zz":Str)++⟨#[c]⟩)/\(("zz":Str)++⟨#[c]⟩)∉N5:=by
 have a:(("zz":Str)++(⟨#[c]⟩:Str)).cps.toList=[122,122,c]:=by
  have:(("zz":Str)++(⟨#[c]⟩:Str)).cps.toList=("zz":Str).cps.toList++[c]:=Array.toList_append;rw[this,(η:("zz":Str).cps.toList=[122,122])];rfl
 have e:(("zz":Str)++(⟨#[c]⟩:Str)).length=3:=by
  have:=bM List.length a;simpa[Str.length] using this
 refine⟨⟨ω,ω,λx b=>?_⟩,λd=>?_⟩
 .rw[a] at b
  simp at b;omega
 .have:∀n∈N5,n.length=1:=η
  have:=this _ d;omega
theorem dN.ri{Ts:Bz}{s:Str}{F:Tb}(h:dN Ts s F){n:Str}(a:n∈af F):dQ Ts s n:=by
 obtain⟨x,b⟩:=nA a;obtain⟨l,c,_⟩:=h.snd _ b;exact c.ri
theorem dN.all{Ts:Bz}{s:Str}{F:Tb}(h:dN Ts s F)(hc:kQ Ts F){n:Str}(b:dQ Ts s n):n∈af F:=by
 induction b with
 |refl=>exact cZ h.st
 |step _ a c=>exact hc _ c _ a
theorem Cv{Ts:Bz}(ar:dw Ts N5){a n:Str}(h:dQ Ts a n)(b:a∈N5):n∈N5:=by
 cases h with
 |refl=>exact b
 |step _ a=>
  obtain⟨c,h1,h2,d⟩:=a;exact ar.sub c h1 n d
theorem V9{Ts:Bz}{a n:Str}(h:dQ Ts a n)(b:∃T∈Ts,a∈af T):∃T∈Ts,n∈af T:=by
 cases h with
 |refl=>exact b
 |step _ a=>
  obtain⟨c,h1,h2,d⟩:=a;exact⟨c,h1,d⟩
theorem C1{Ts:Bz}{NN:Ap}{w:Str->Rat}(ar:dw Ts NN)(e:Cs Ts w){rs:List (Str×Int)}(g:rs.Perm (pO Ts)){n m:Str}(h:∃T∈Ts,n∈af T)(i:dQ Ts n m):1<=val rs n/\(val rs n:Rat)*w m=(val rs m:Rat)*w n:=by
 obtain⟨q,b,j,a⟩:=Bm ar h;have d:m∈au (aH Ts q):=(iO ar b).mpr (((iO ar b).mp a).trans i);obtain⟨k,_,c,p,f⟩:=Yn ar g j;have l:=lC ar e a;have o:=lC ar e d;have:=k n a;refine⟨ω,?_⟩;rw[f n a,f m d,<-l,<-o];grind
theorem xu{n:Str}(h:Nm n):(PyData.str n).canLay0=true:=by
 have:=ue [n] (by simpa using h);simpa[canLayAll0] using this
theorem HK:∀rs:List (Str×Int),(∀r∈rs,Nm r.1)->canLayAll0 (bF (rs.map aR))=true
 |[],_=>rfl
 |r::rs,h=>by
  have h1:=xu (h r (bw ..));have h2:=HK rs λq a=>h q (bq _ a);show((PyData.tuple [.str r.1,.int r.2]).canLay0&&canLayAll0 (bF (rs.map aR)))=true;rw[h2];simp only[canLay0,canLayAll0,Bool.and_true] at h1 ⊢;exact h1
theorem IZ:∀rs:List (Str×Int),gb (rs.map aR)=true
 |[]=>rfl
 |r::rs=>by
  show(fS (aR r)&&gb (rs.map aR))=true;rw[IZ rs];rfl
theorem HL:∀es:List (Str×Rat),(∀r∈es,Nm r.1)->canLayAll0 (bF (es.map bZ))=true/\gb (es.map bZ)=true/\depthAll (bF (es.map bZ))<=10
 |[],_=>⟨rfl,rfl,by simp[bF,depthAll]⟩
 |r::rs,h=>by
  have h1:=xu (h r (bw ..));obtain⟨h2,b,d⟩:=HL rs λq c=>h q (bq _ c);refine⟨?_,?_,?_⟩
  .show((PyData.tuple [.str r.1,toQ (fq r.2)]).canLay0&&canLayAll0 (bF (rs.map bZ)))=true
   have a:=oU r.2;rw[h2];simp only[canLay0,canLayAll0,Bool.and_true] at h1 a ⊢;rw[h1,a];rfl
  .show(fS (bZ r)&&gb (rs.map bZ))=true
   rw[b];rfl
  .show depthAll (.tuple [.str r.1,.tuple [.int _,.int _]]::bF (rs.map bZ))<=10
   simp only[depthAll,PyData.depth];omega
theorem TZ{A:Ar}{p q:Nat}{es:List (Str×Rat)}{R:DK}(h1:A[p]?=some (.lst (es.map bZ)))(h2:A[q]?=some (.lst (es.map bZ)))(c:∀r∈es,Nm r.1)(k:R (.bl false) A):f6 true (.ref p) (.ref q) A R:=by
 obtain⟨f,e,d⟩:=HL es c;unfold f6;have a:cW A (.ref p)=.list (bF (es.map bZ)):=by unfold cW;simp only[h1]
 have b:cW A (.ref q)=.list (bF (es.map bZ)):=by unfold cW;simp only[h2]
 have l:(PyData.list (bF (es.map bZ))).canLay0=true:=by simpa[canLay0] using f
 refine⟨?_,?_,?_,?_,?_,?_⟩
 .unfold ju;simp only[h1];exact e
 .unfold ju;simp only[h2];exact e
 .rw[a];exact l
 .rw[b];exact l
 .rw[a,b];simp only[PyData.depth];omega
 .rw[a,b,PySem.SeqAt.eqv_refl _ l]
  exact k
theorem O5{es:List (Str×Rat)}{rs:List (Str×D)}{c:Tb}(f:rs.Perm (c.map λr=>(r.1,fq r.2)))(g:(rs.map (·.1)).Pairwise strLt)(d:(es.map (·.1)).Pairwise strLt)(hd:(af c).Nodup)(i:∀n x,(n,x)∈es↔(n,x)∈c):rs.map oS=es.map bZ:=by
 have n1:es.Nodup:=by
  exact(jy.mp (uO d)).imp λh e=>h (by rw[e])
 have n2:c.Nodup:=(jy.mp hd).imp λh e=>h (by rw[e]);have j:es.Perm c:=(List.perm_ext_iff_of_nodup n1 n2).mpr λ⟨n,x⟩=>i n x;have p2:rs.Perm (es.map λr=>(r.1,fq r.2)):=f.trans (j.symm.map _);have e:rs=es.map λr=>(r.1,fq r.2):=by
  refine p2.eq_of_pairwise (le:=λa b=>strLt a.1 b.1) (λa b _ _ k l=>?_) (jy.mp g) (jy.mpr (jy.mp d));exact absurd rfl (uV (Lf k l))
 rw[e,br];rfl
theorem Du.Tq{Ts:Bz}{w:Str->Rat}{rs:List (Str×Int)}{c:Tb}(h:Du Ts w rs c)(n:Str)(x:Rat):(∃p∈rs,dQ Ts p.1 n/\x=(p.2:Rat)/w p.1*w n)↔(n,x)∈c:=by
 constructor
 .rintro ⟨p,a,b,rfl⟩
  obtain⟨y,d⟩:=nA ((h.mem n).mpr ⟨p,a,b⟩);rw[<-h.val p a n b,kH h.nd d];exact d
 .intro e
  obtain⟨p,a,b⟩:=(h.mem n).mp (cZ e);refine⟨p,a,b,?_⟩;rw[<-h.val p a n b];exact(kH h.nd e).symm
def MS(RE:DX):cT:=gI (jQ 18 (iK 2 qp RE (bE (bO oZ (aX 16) (aX 14)) (bE (aX 17) dR)))) (gI (rm (fO (bO qU (Ax Bh (aX 12) (bE (aX 15) (bE (aX 18) dR))) (aX 18))) (yH (bO oG (iK 2 mY RE (bE (aX 2) (bE (aX 10) dR))) (oz (bE (dC (D.str "refused")) (bE (dC (D.int 5)) dR))))) uQ) (JI (aX 12) (aX 15) (aX 18)))
def tZ(RE:DX):cT:=pL (mq (Ay (iK 2 vL RE (bE (aX 2) (bE (aX 13) dR))))) (gT 2 (ku (gN 15) (ku (gT 2 (ku (gN 16) (ku (gN 17) oK))) oK))) (MS RE)
section
variable{RE:DX}{ms:Fm}{w:Str->Rat}{ts:List (Str×Int)}{K:lU}
theorem RP(h6:ms.length<=6)(hF:∀m∈ms,Fw m)(Z:Cs (ms.map aI) w)(I:¬Gd (ms.map aI) w ts->∀X Q,(∀A',Gr X A'->Q (kG 5) A')->mY [.tup (ms.map enc),dY ts] X Q RE)(wR:∀A',K.rt (.bl true) A')
  {y0 y1 y3 y4 y5 y6 y7 y8 y9 s J L M N t:Option D}{j A:Ar}{Y:List (Str×Int)}{p:Str×Int}{Dt:Tb}(h5:∀p∈ts,p.1∈N5)(O:∀q∈Y,q∈ts)(hp:p∈ts)(k1:1<=p.2/\p.2<=999999)(hA:A[j.length]? =some (.dct (bh Dt)))(g:Gr j A)(hD:Du (ms.map aI) w Y Dt)
  (fin:∀u B E G P A',A'[j.length]? =some (.dct (bh P))->Gr j A'->Du (ms.map aI) w (Y++[p]) P->K.nx [y0,y1,some (.tup (ms.map enc)),y3,y4,y5,y6,y7,y8,y9,some (dY ts),s,some (.ref j.length),some (.str p.1),some (.int p.2),u,B,E,G,t] A'):
  tZ RE K [y0,y1,some (.tup (ms.map enc)),y3,y4,y5,y6,y7,y8,y9,some (dY ts),s,some (.ref j.length),some (.str p.1),some (.int p.2),J,L,M,N,t] A:=by
 have ar:=oO h6 hF
 unfold tZ
 refine⟨rfl,ms,p.1,rfl,h6,hF,h5 p hp,λA1 q F g1 hq lq i hc=> ?_⟩
 have lA:=bQ hA
 have R:=g1.get hA
 have ZF:=bQ R
 refine K3 (rows:=F.map λr=>(r.1,fq r.2)) (by rw[hq];unfold bh;rw[br];rfl) (by rw[br];exact i.nd) (by rw[aM];have:=i.len;omega) (λr hr=> ?_) λrs rp ru=> ?_
 .obtain⟨r',d,rfl⟩:=aP.mp hr
  exact⟨rfl,oU _,by simp[fq,toQ,bF,PyData.depth,depthAll],xu (jt _ (i.sub _ (cZ d)))⟩
 have S:(A1++[C.lst (rs.map oS)])[A1.length]? =some (.lst (rs.map oS)):=aN
 refine dB S ?_
 have T:=uO ru
 refine dW (λrest τ A'=>∃(done a:List (Str×D)) (P:Tb) (u B E G:Option D),rest=a.map oS/\done++a=rs/\τ=[y0,y1,some (.tup (ms.map enc)),y3,y4,y5,y6,y7,y8,y9,some (dY ts),s,some (.ref j.length),some (.str p.1),some (.int p.2),u,B,E,G,t]/\A'[j.length]? =some (.dct (bh P))/\A'[A1.length]? =some (.lst (rs.map oS))/\Gr j A'/\lV (ms.map aI) w Y p (done.map (·.1)) P) ?_ ?_ ?_ _ _ _ ⟨[],rs,Dt,J,L,M,N,rfl,rfl,rfl,a4 R,S,(g.trans g1).trans Gr.push,hD.start⟩
 .rintro rest τ A' ⟨_,_,_,_,_,_,_,_,_,_,_,h,_⟩
  exact h
 .rintro v rest τ A2 ⟨done,a,l,YU,YV,YW,YX,e,b,rfl,hd2,U,g2,H⟩ Nx hN
  cases a with
  |nil=>cases e
  |cons r a=>
  cases e
  have hr:r∈rs:=by rw[<-b];simp
  obtain⟨⟨n,x⟩,hx,er⟩:=aP.mp (rp.mem_iff.mp hr)
  have er:(n,fq x)=r:=er
  subst er
  have hn:n∈af F:=cZ hx
  have ex:aE F n=x:=kH i.nd hx
  obtain⟨xp,xa,xb⟩:=i.pos hx
  have xp:0<x:=xp
  have ev:=i.val ar.tok Z hn
  rw[ex] at ev
  have V:n∉done.map (·.1):=λz=>by
   rw[<-b,c_,cM] at T
   exact(jX.mp T).2.2 n z n θ rfl
  have x1:=cV xp
  have x2:=cj x
  have xa:(rf x).1<=474373168346071296:=xa
  have m1:(rf x).1*p.2<=474373168346071296*999999:=dc xa k1.2 ω δ
  have Si:0<(rf x).1*p.2:=dm x1 ω
  have ey:(((rf x).1*p.2:Int):Rat)/((rf x).2:Rat)=(p.2:Rat)/w p.1*w n:=by
   have v:=gc x
   have d0:=gP (fW x2)
   have w0:=eY (Z.pos p.1)
   rw[gv,<-ev]
   have v:((rf x).1:Rat)/((rf x).2:Rat)=x:=v
   conv=>rhs;rw[<-v]
   grind
  have l2:l.length<=5:=by
   have:=iu (af l) N5 H.nd λm hm=>by
    rcases (H.mem m).mp hm with⟨q',hq',d⟩|z
    .exact Cv ar d (h5 q' (O q' hq'))
    .obtain⟨r',d,rfl⟩:=aP.mp z
     obtain⟨f,hf,ef⟩:=aP.mp (rp.mem_iff.mp (show r'∈rs by rw[<-b];simp[d]))
     rw[<-ef]
     exact i.sub _ (cZ hf)
   simpa[af,N5] using this
  refine⟨rfl,rfl,?_⟩
  refine⟨.inr ⟨ω,ω⟩,rfl,_,⟨(rf x).1*p.2,(rf x).2,rfl,Si,x2,CK ω,rfl⟩,λA3 g3=> ?_⟩
  rw[Bb x2,ey]
  have o:=g3.get hd2
  refine⟨BA o,QE (y:= .str n) (k:=Sum.inr n) o rfl ?_⟩
  have eg:(bA (bh l) (Sum.inr n)).getD (fq ((p.2:Rat)/w p.1*w n))=fq (if n∈af l then aE l n else (p.2:Rat)/w p.1*w n):=by
   by_cases c:n∈af l
   .rw[lz c,aB c]
    rfl
   .have:=qM l n
    rw[d8 c] at this
    rw[Option.isSome_eq_false_iff,Option.isNone_iff_eq_none] at this
    rw[this,av c]
    rfl
  rw[eg]
  refine xK ?_
  refine cN (λc=> ?_) (λc=> ?_)
  .by_cases W:n∈af l
   .rw[aB W] at c
    exact⟨rfl,I (H.no Z V W (i.ri hn) c O hp) _ _ λA' g'=>⟨(δ:2<=sizeLine),Cn (neg:=false) (wR _)⟩⟩
   .rw[av W] at c
    exact absurd rfl c
  .refine yz o rfl (by unfold bh;rw[aM];have:(1000:Nat)<=sizeLine:=δ;omega) ?_
   rw[<-BJ]
   refine hN _ _ ⟨done++[(n,fq x)],a,_,_,_,_,_,rfl,by rw[<-b];simp,rfl,eG (bQ o),?_,(g2.trans g3).set (aJ _),?_⟩
   .rw[eF ω]
    exact g3.get U
   .rw[c_]
    exact H.step V λW=>by rw[aB W] at c;exact c
 .rintro τ A2 ⟨done,a,l,YU,YV,YW,YX,e,b,rfl,hd2,U,g2,H⟩
  cases a with
  |cons _ _=>cases e
  |nil=>
   have b:done=rs:=by simpa using b
   subst b
   refine fin _ _ _ _ _ _ hd2 g2 (H.fin λn=> ?_)
   rw[(rp.map (·.1)).mem_iff,br]
   exact⟨λh=>i.ri h,λh=>i.all hc h⟩
theorem UQ(h6:ms.length<=6)(hF:∀m∈ms,Fw m)(hw:Cs (ms.map aI) w)(s:¬Gd (ms.map aI) w ts->∀X Q,(∀A',Gr X A'->Q (kG 5) A')->mY [.tup (ms.map enc),dY ts] X Q RE)(C:∀A',K.rt (.bl true) A')
  {E F G H I J L M N i t u x y z A j:Option D}{h:Ar}(h5:∀p∈ts,p.1∈N5)(O:∀p∈ts,1<=p.2/\p.2<=999999)
  (fin:∀k l c d f g o A',A'[h.length]? =some (.dct (bh o))->Gr h A'->Du (ms.map aI) w ts o->K.nx [E,F,some (.tup (ms.map enc)),G,H,I,J,L,M,N,some (dY ts),i,some (.ref h.length),k,l,c,d,f,g,j] A'):
  pL (mq (aX 10)) (gT 2 (ku (gN 13) (ku (gN 14) oK))) (tZ RE) K [E,F,some (.tup (ms.map enc)),G,H,I,J,L,M,N,some (dY ts),i,some (.ref h.length),t,u,x,y,z,A,j] (h++[.dct []]):=by
 refine dW (λrest τ A'=>∃(r a:List (Str×Int)) (o:Tb) (k l c d f g:Option D),rest=a.map aR/\r++a=ts/\τ=[E,F,some (.tup (ms.map enc)),G,H,I,J,L,M,N,some (dY ts),i,some (.ref h.length),k,l,c,d,f,g,j]/\A'[h.length]? =some (.dct (bh o))/\Gr h A'/\Du (ms.map aI) w r o) ?_ ?_ ?_ _ _ _ ⟨[],ts,[],t,u,x,y,z,A,rfl,rfl,rfl,aN,Gr.push,⟨by simp[af],λn=>by simp[af],λp B=>by cases B⟩⟩
 .intro _ _ _ _
  trivial
 .rintro v rest τ A2 ⟨r,a,D2,P,R,S,T,U,V,e,b,rfl,hd2,W,Y⟩ Nx hN
  cases a with
  |nil=>cases e
  |cons p a=>
  cases e
  have B:p∈ts:=by rw[<-b];simp
  refine⟨rfl,?_⟩
  refine RP (K:={K with nx:=Nx,ct:=Nx,bk:=K.nx}) h6 hF hw s (λA'=>C A') h5 (λq hq=>by rw[<-b];simp[hq]) B (O p B) hd2 W Y λc d f g o A' Z g' hI'=> ?_
  exact hN _ _ ⟨r++[p],a,o,_,_,_,_,_,_,rfl,by rw[<-b];simp,rfl,Z,g',hI'⟩
 .rintro τ A2 ⟨r,a,D2,P,R,S,T,U,V,e,b,rfl,hd2,W,Y⟩
  cases a with
  |cons _ _=>cases e
  |nil=>
   have b:r=ts:=by simpa using b
   subst b
   exact fin _ _ _ _ _ _ _ _ hd2 W Y
end
section
variable{RE:DX}{ms:Fm}{w:Str->Rat}{K:lU}
theorem Ac(d:gM (.tup (ms.map enc)) ms)(i:ms.length<=6)(j:∀m∈ms,Fw m)(b:Cs (ms.map aI) w){rs:List (Str×Int)}(f:j_ rs)(hi:∀p∈rs,∃T∈ms.map aI,p.1∈af T)(X:Ar)(Q:DK)(l:¬Gd (ms.map aI) w rs->∀A',Gr X A'->Q (kG 5) A')
  (hc:Gd (ms.map aI) w rs->∀A' q (es:List (Str×Rat)),Gr X A'->(∀n x,(n,x)∈es↔∃p∈rs,dQ (ms.map aI) p.1 n/\x=(p.2:Rat)/w p.1*w n)->(es.map (·.1)).Pairwise strLt->A'[q]?=some (.lst (es.map bZ))->X.length<=q->Q (.ref q) A'):mY [.tup (ms.map enc),dY rs] X Q RE:=by
 have ar:=oO i j;refine⟨_,N5,_,rfl,⟨ms,d⟩,jt,IA f.nm,λxs e=>?_,λo r=>?_⟩
 .cases e
  rw[aM];exact f.len
 .obtain rfl:=wM r
  refine⟨ar,λs=>absurd ⟨rs,rfl,f,hi⟩ s,λh t u a=>?_⟩;have:h=rs:=(AS t).symm;subst this;refine⟨λk=>absurd (JB ar b) k,λk=>⟨GW i j,λc A' q es g ep v y z=>?_,λc A' g=>l (λA=>c ((K1 ar b a).mpr A)) A' g⟩⟩;exact hc ((K1 ar b a).mp c) A' q es g (λn x=>by rw[ep.mem_iff,Xh ar b a c]) v y z
def Lr(RE:DX):cT:=
 gI (jQ 9 (l_ AA (bE (iK 1 z3 RE (bE (aX 2) dR)) dR)))
  (gI (jQ 10 (jI none [7,9] (mq (aX 8)) mE (oz (bE (aX 0) (bE (bO oZ (aX 1) (bO jL (aX 2) (aX 0))) dR)))))
  (gI (rm (Fe (fO (bO qU (aX 10) (Aw dR))) (fO (bO oG (iK 3 l9 RE (bE (aX 0) (bE (aX 1) (bE (dC (D.int 2)) dR)))) (dC (D.int 0)))))
   (gI (jQ 11 (iK 3 l9 RE (bE (aX 0) (bE (aX 1) (bE (l_ BL (bE (aX 10) dR)) dR)))))
    (JJ (aX 10) (aX 11) (oz (bE (bO jL (bO jL (aX 10) (aX 11)) (dC (D.int 0))) (bE (bO sG (bO jL (bO jL (aX 10) (aX 11)) (dC (D.int 1))) (iK 3 l9 RE (bE (aX 0) (bE (aX 1) (bE (dC (D.int 4)) dR))))) dR)))))
   uQ)
  (gI (jQ 10 (l_ yR (bE (jI (some 2) [] (mq (aX 10)) (fO (bO mz (aX 1) (dC (D.int 999999)))) (oz (bE (aX 0) (bE (aX 1) dR)))) dR)))
  (gI (jQ 12 Fi)
  (gI (pL (mq (aX 10)) (gT 2 (ku (gN 13) (ku (gN 14) oK))) (tZ RE))
  (gI (rm (fO (bO qU (iK 2 mY RE (bE (aX 2) (bE (aX 10) dR))) (Ay (aX 12)))) (yH (dC (D.bl false))) uQ)
  (gI (jQ 19 (iK 2 mY RE (bE (aX 2) (bE (l_ yR (bE (jI none [7,9] (mq (aX 8)) (fO (bO mz (bO oZ (aX 1) (bO jL (aX 2) (aX 0))) (dC (D.int 999999)))) (oz (bE (aX 0) (bE (bO oZ (aX 1) (bO jL (aX 2) (aX 0))) dR)))) dR)) dR))))
  (yH (l_ z_ (bE (jI (some 2) [7,9] (mq (aX 19)) mE (bO oG (aX 1) (oz (bE (bO oZ (aX 2) (bO jL (aX 3) (aX 0))) (bE (dC (D.int 1)) dR))))) dR))))))))))
theorem Yp(H:gM (.tup (ms.map enc)) ms)(h6:ms.length<=6)(hF:∀m∈ms,Fw m)(M:Cs (ms.map aI) w)(wR:∀A',K.rt (.bl true) A'){ns:Fn}{t q8 nt:Nat}{i:Int}{y3 y4 y5 y6:Option D}{g:Ap}{A:Ar}
  (yL:g.Pairwise strLt)(s5:g.length<=5)(W:∀n∈g,∃T∈ms.map aI,n∈af T)(i0:0<=i)(i1:i<5)(tw:Tw t nt A)(ht:nt<1000)(s:A[q8]?=some (.lst (g.map D.str)))(Y:q8≠t):
  Lr RE K [some (.fl ns),some (.ref t),some (.tup (ms.map enc)),y3,y4,y5,y6,some (.int (1+i)),some (.ref q8),none,none,none,none,none,none,none,none,none,none,none] A:=by
 have ar:=oO h6 hF;have hz:(1000:Nat)<=sizeLine:=δ
 have s2:(2:Nat)<=sizeLine:=δ
 have I:∀n∈g,n∈N5:=λn h=>by
  obtain⟨T,h1,h2⟩:=W n h;exact ar.sub T h1 n h2
 unfold Lr;refine⟨rfl,.tup (ms.map enc),N5,rfl,⟨ms,H⟩,jt,λN hH=>?_,λh=>absurd ⟨ms,H⟩ h⟩;obtain rfl:=wM hH;refine⟨ar,λ_=>⟨GW h6 hF,λO rs g1 rp ru=>?_⟩,λh=>absurd (JB ar M) h⟩;have rl:rs.length<=5:=by
  have:=iu (rs.map (·.1)) N5 (uO ru) λn h=>by
   obtain⟨T,h1,h2⟩:=(C2 ar rp n).mp h;exact ar.sub T h1 n h2
  simpa[N5] using this
 refine OC ru ω ?_;have E:(O++[C.dct (gD rs)])[O.length]?=some (.dct (gD rs)):=aN;have g2:Gr A (O++[C.dct (gD rs)]):=g1.trans Gr.push;have HZ:=bQ (nK tw).1;have Z:O.length≠t:=by have:=g1.len;omega
 have s:=g2.get s;have tw:=tw.gr g2;clear g1 g2 HZ;generalize O++[C.dct (gD rs)]=A2 at*
 generalize O.length=q9 at*
 have hval:∀n∈g,1<=val rs n:=λn h=>(C1 ar M rp (W n h) (.refl _)).1;have bk:∀n∈g,bA (gD rs) (Sum.inr n)=some (.int (val rs n)):=λn h=>Bk rs n ((C2 ar rp n).mpr (W n h));have P:∀n∈g,1<=(1+i)*val rs n:=λn h=>by
  have:=hval n h;have:=dc (ω:1<=1+i) this δ ω;omega
 have mulR:∀(X:Ar) (n:Str) (Q:DK),n∈g->X[q9]?=some (.dct (gD rs))->Q (.int ((1+i)*val rs n)) X->kB q9 (.str n) X (λv O=>oZ (.int (1+i)) v O Q):=λX n Q h hX B=>gC hX rfl (bk n h) ⟨.inl ⟨ω,ω⟩,B⟩;refine dB s ?_;refine ic (f:=λd=>match d with|.str n=>aR (n,(1+i)*val rs n)|d=>d) s _ _ (λd hd=>?_) (by simp;omega) ?_
 .obtain⟨n,h,rfl⟩:=aP.mp hd
  exact⟨[.str n],rfl,λQ B=>mulR _ _ _ h E ⟨s2,B⟩⟩
 have em:(g.map D.str).map (λd=>match d with|.str n=>aR (n,(1+i)*val rs n)|d=>d)=(g.map λn=>(n,(1+i)*val rs n)).map aR:=by
  rw[br,br];rfl
 rw[fm,em];have l:(A2++[C.lst ((g.map λn=>(n,(1+i)*val rs n)).map aR)])[A2.length]?=some (.lst ((g.map λn=>(n,(1+i)*val rs n)).map aR)):=aN;have g3:Gr A2 (A2++[C.lst ((g.map λn=>(n,(1+i)*val rs n)).map aR)]):=Gr.push;have HZ:=bQ (nK tw).1;have J:A2.length≠t:=ω
 have ZO:=bQ s;have ZP:=bQ E;have s:=g3.get s;have E:=g3.get E;have tw:=tw.gr g3;have n1:(g.map λn=>(n,(1+i)*val rs n)).map (·.1)=g:=by
  rw[br];exact map_id' g
 have n2:∀r∈g.map λn=>(n,(1+i)*val rs n),1<=r.2:=λr o=>by
  obtain⟨n,h,rfl⟩:=aP.mp o;exact P n h
 generalize hts:(g.map λn=>(n,(1+i)*val rs n))=e at l s E g3 tw n1 n2 ⊢;generalize QK:A2++[C.lst (e.map aR)]=A3 at*
 generalize A2.length=Jb at*
 dsimp only;refine K0 (a:=rm _ _ _) (λτ A'=>∃(Dd:Option D) (ts:List (Str×Int)),τ=[some (.fl ns),some (.ref t),some (.tup (N.map enc)),y3,y4,y5,y6,some (.int (1+i)),some (.ref q8),some (.ref q9),some (.ref Jb),Dd,none,none,none,none,none,none,none,none]/\A'[Jb]?=some (.lst (ts.map aR))/\ts.map (·.1)=g/\(∀r∈ts,1<=r.2)/\A'[q8]?=some (.lst (g.map D.str))/\A'[q9]?=some (.dct (gD rs))) ?_ λfin=>?_
 .rintro τ A4 ⟨Dd,ts,rfl,HA,kn,kp,R,F⟩
  have tl:ts.length=g.length:=by rw[<-kn,aM]
  refine dB HA ?_;refine sQ HA (λd=>match d with|.tup [_,.int k]=>decide (k<=999999)|_=>false) id _ _ (λd hd=>?_) (by simp;omega) ?_
  .obtain⟨r,o,rfl⟩:=aP.mp hd
   exact⟨[.str r.1,.int r.2],rfl,λQ B=>B,λQ B=>⟨s2,B⟩⟩
  have ef:(((ts.map aR).filter (λd=>match d with|.tup [_,.int k]=>decide (k<=999999)|_=>false)).map id)=(ts.filter λr=>decide (r.2<=999999)).map aR:=by
   rw[map_id,List.filter_map];rfl
  rw[fm,ef];refine uY aN ?_;have sub:((ts.filter λr=>decide (r.2<=999999)).map (·.1)).Sublist g:=by
   rw[<-kn];exact List.filter_sublist.map _
  have no:∀r∈ts.filter λr=>decide (r.2<=999999),1<=r.2/\r.2<=999999:=λr o=>by
   obtain⟨a,b⟩:=nI.mp o;exact⟨kp r a,fu b⟩
  have R:=(Gr.push (T:=[C.lst ((ts.filter λr=>decide (r.2<=999999)).map aR)])).get R;have F:=(Gr.push (T:=[C.lst ((ts.filter λr=>decide (r.2<=999999)).map aR)])).get F;generalize A4++[C.lst ((ts.filter λr=>decide (r.2<=999999)).map aR)]=A5 at*
  generalize ts.filter (λr=>decide (r.2<=999999))=tt at*
  have S:∀{tt:List (Str×Int)},(tt.map (·.1)).Sublist g->(∀r∈tt,1<=r.2/\r.2<=999999)->j_ tt/\∀p∈tt,∃T∈N.map aI,p.1∈af T:=λ {tt} sub no=>by
   have m:∀r∈tt,r.1∈g:=λr o=>sub.subset (cZ o);refine⟨⟨λr o=>jt _ (I _ (m r o)),no,yL.sublist sub,?_⟩,λp G=>W _ (m p G)⟩;have:=sub.length_le;rw[aM] at this;omega
  obtain⟨wo,wi⟩:=S sub no;dsimp only;show gI (pL (mq (aX 10)) (gT 2 (ku (gN 13) (ku (gN 14) oK))) (tZ RE)) _ K [some (.fl ns),some (.ref t),some (.tup (N.map enc)),y3,y4,y5,y6,some (.int (1+i)),some (.ref q8),some (.ref q9),some (dY tt),Dd,some (.ref A5.length),none,none,none,none,none,none,none] (A5++[.dct []]);rw[gI];refine UQ h6 hF M (λhg X Q B=>Ac H h6 hF M wo wi X Q (λ_=>B) λhg'=>absurd hg' hg) ?_ (λp G=>I _ (sub.subset (cZ G))) no λZ3 Z4 Z5 Z6 Z7 Z8 Dt A6 tS g6 L=>?_
  .exact λA'=>wR A'
  have R:=g6.get R;have F:=g6.get F;have hg:=L.gd M;refine⟨rfl,Ac H h6 hF M wo wi _ _ (λh=>absurd hg h) λ_ A7 q es g7 F3 O7 OU ZN=>?_⟩;have nes:∀r∈es,r.1∈N5:=λr o=>by
   obtain⟨p,G,u,_⟩:=(F3 r.1 r.2).mp o;exact Cv ar u (I _ (sub.subset (cZ G)))
  have m7:∀n x,(n,x)∈es↔(n,x)∈Dt:=λn x=>by rw[F3,L.Tq]
  have d5:∀n∈af Dt,n∈N5:=λn h=>by
   obtain⟨x,hx⟩:=nA h;exact nes _ ((m7 n x).mpr hx)
  have dl:Dt.length<=5:=by
   have:=iu (af Dt) N5 L.nd d5;simpa[af,N5] using this
  refine K3 (rows:=Dt.map λr=>(r.1,fq r.2)) (by rw[g7.get tS];unfold bh;rw[br];rfl) (by rw[br];exact L.nd) (by rw[aM];omega) (λr o=>?_) λZZ Wk Wn=>?_
  .obtain⟨r',u,rfl⟩:=aP.mp o
   exact⟨rfl,oU _,by simp[fq,toQ,bF,PyData.depth,depthAll],xu (jt _ (d5 _ (cZ u)))⟩
  rw[O5 Wk Wn O7 L.nd m7];have R:=(g7.trans (Gr.push (T:=[C.lst (es.map bZ)]))).get R;have F:=(g7.trans (Gr.push (T:=[C.lst (es.map bZ)]))).get F;refine TZ (a4 OU) aN (λr o=>jt _ (nes r o)) ?_;generalize A7++[C.lst (es.map bZ)]=A8 at*
  refine dB R ?_;refine sQ R (λd=>match d with|.str n=>decide ((1+i)*val rs n<=999999)|_=>false) (λd=>match d with|.str n=>aR (n,(1+i)*val rs n)|d=>d) _ _ (λd hd=>?_) (by simp;omega) ?_
  .obtain⟨n,h,rfl⟩:=aP.mp hd
   exact⟨[.str n],rfl,λQ B=>mulR _ _ _ h F B,λQ B=>mulR _ _ _ h F ⟨s2,B⟩⟩
  have OV:(((g.map D.str).filter (λd=>match d with|.str n=>decide ((1+i)*val rs n<=999999)|_=>false)).map (λd=>match d with|.str n=>aR (n,(1+i)*val rs n)|d=>d))=((g.filter λn=>decide ((1+i)*val rs n<=999999)).map λn=>(n,(1+i)*val rs n)).map aR:=by
   rw[List.filter_map,br,br];rfl
  rw[fm,OV];refine uY aN ?_;obtain⟨Dc,YR⟩:=S (tt:=(g.filter λn=>decide ((1+i)*val rs n<=999999)).map λn=>(n,(1+i)*val rs n)) (by
   rw[br];show((g.filter λn=>decide ((1+i)*val rs n<=999999)).map λn=>n).Sublist g;rw[map_id'];exact List.filter_sublist) (λr o=>by
   obtain⟨n,h,rfl⟩:=aP.mp o;obtain⟨a,b⟩:=nI.mp h;exact⟨P n a,fu b⟩)
  have me:∀p∈(g.filter λn=>decide ((1+i)*val rs n<=999999)).map λn=>(n,(1+i)*val rs n),p.1∈g/\p.2=(1+i)*val rs p.1:=λp G=>by
   obtain⟨n,h,rfl⟩:=aP.mp G;exact⟨(nI.mp h).1,rfl⟩
  have QC:Gd (N.map aI) w ((g.filter λn=>decide ((1+i)*val rs n<=999999)).map λn=>(n,(1+i)*val rs n)):=λp G q hq o=>by
   obtain⟨a1,a2⟩:=me p G;obtain⟨b1,b2⟩:=me q hq;have:=(C1 ar M rp (W _ a1) o).2;rw[a2,b2,gv,gv,Rat.mul_assoc,Rat.mul_assoc,this]
  have F:=(Gr.push (T:=[C.lst (((g.filter λn=>decide ((1+i)*val rs n<=999999)).map λn=>(n,(1+i)*val rs n)).map aR)])).get F;generalize A8++[C.lst (((g.filter λn=>decide ((1+i)*val rs n<=999999)).map λn=>(n,(1+i)*val rs n)).map aR)]=A9 at*
  generalize ((g.filter λn=>decide ((1+i)*val rs n<=999999)).map λn=>(n,(1+i)*val rs n))=t2 at*
  refine⟨rfl,Ac H h6 hF M Dc YR _ _ (λh=>absurd QC h) λ_ DB q' fs Qu U O6 V ZK=>?_⟩;have F:=Qu.get F;have fl:fs.length<=5:=by
   have:=iu (fs.map (·.1)) N5 (uO O6) λn h=>by
    obtain⟨r,o,rfl⟩:=aP.mp h;obtain⟨p,G,u,_⟩:=(U r.1 r.2).mp o;exact Cv ar u (I _ (me p G).1)
   simpa[N5] using this
  refine dB V ?_;refine ic (f:=λ_=>.bl true) V _ _ (λd hd=>?_) (by simp;omega) ?_
  .obtain⟨r,o,rfl⟩:=aP.mp hd
   refine⟨[.str r.1,fq r.2],rfl,λQ B=>?_⟩;obtain⟨p,G,u,hx⟩:=(U r.1 r.2).mp o;obtain⟨a1,a2⟩:=me p G;have hr1:=V9 u (W _ a1);refine gC F rfl (Bk rs r.1 ((C2 ar rp r.1).mpr hr1)) ⟨.inl ⟨ω,ω⟩,s2,?_⟩;have ev:r.2=(((1+i)*val rs r.1:Int):Rat):=by
    have:=(C1 ar M rp (W _ a1) u).2;have w0:=eY (M.pos p.1);rw[hx,a2,gv,gv];grind
   rw[<-GB];refine O3 ?_;rw[dg ev];exact B
  rw[fm];have et:(fs.map bZ).map (λ_=>D.bl true)=(fs.map λ_=>D.bl true):=by
   rw[br];rfl
  rw[et];refine vO aN (qx (λ_=>true) fs) ?_;have ea:((fs.map λ_=>true).all id)=true:=by
   rw[List.all_map];exact nP.mpr λ_ _=>rfl
  rw[ea];exact wR _
 .-- one told weight may be Zd
  have p0:=IZ e;have l0:=HK e λr o=>jt _ (I _ (by rw[<-n1];exact cZ o));refine⟨b_ _,Ik l p0 l0 ?_⟩;by_cases c:e.map aR=[]
  .rw[dg c]
   exact fin _ _ ⟨_,e,rfl,a4 l,n1,n2,a4 s,a4 E⟩
  .rw[d8 c]
   refine⟨rfl,ns,_,2,nt,rfl,tw.gr Gr.push,ω,δ,λk A4 k0 k1 b4 t4=>?_⟩;have l:=b4 _ _ J (a4 l);have s:=b4 _ _ Y (a4 s);have E:=b4 _ _ Z (a4 E);refine cD (λck=>?_) (λck=>?_)
   .have lp:0<e.length:=by
     cases e with
     |nil=>exact absurd rfl c
     |cons a b=>simp
    refine oV l ⟨rfl,ns,_,_,_,rfl,t4,ω,by rw[aM];omega,λj A5 j0 j1 b5 t5=>?_⟩;have l:=b5 _ _ J l;have s:=b5 _ _ Y s;have E:=b5 _ _ Z E;rw[aM] at j1;obtain⟨y,rfl⟩:∃y:Nat,j=(y:Int):=⟨j.toNat,ω⟩;have hj:y<e.length:=ω
    have ej:e[y]?=some e[y]:=aS hj;have EF:d9 (e.map aR) (y:Int)=some (aR e[y]):=oj (by rw[bz,ej];rfl);refine iN l EF ?_;refine iN l EF ⟨rfl,ns,_,4,_,rfl,t5,ω,δ,λk4 A6 Zz ZA b6 t6=>?_⟩;have l:=b6 _ _ J l;have s:=b6 _ _ Y s;have E:=b6 _ _ Z E;refine⟨s2,?_⟩;have hin:e[y]∈e:=jV hj;refine S0 (j:=y) l (by rw[aM];unfold jq;rw[aB ω,aB ω];rfl) ?_;refine fin _ _ ⟨_,e.set y (e[y].1,e[y].2+k4),rfl,?_,?_,?_,?_,?_⟩
    .rw[List.map_set]
     exact eG (bQ l)
    .have e2:e[y].1=(e.map (·.1))[y]'(by simpa using hj):=by rw[List.getElem_map]
     rw[List.map_set];show(e.map (·.1)).set y e[y].1=g;rw[e2,List.set_getElem_self,n1]
    .intro r o
     rcases List.mem_or_eq_of_mem_set o with z|z
     .exact n2 r z
     .rw[z]
      have:=n2 _ hin;show 1<=e[y].2+k4;omega
    .rw[eF ω]
     exact s
    .rw[eF ω]
     exact E
   .exact fin _ _ ⟨_,e,rfl,l,n1,n2,s,E⟩
end
theorem PU{fo:Addr}{fd:FuncData}(T:lW K "law" "law" mC fo fd)(MQ:mg "len"=none)(S:mg "tuple"=none)(Ze:mg "list"=none)(G:mg "sorted"=none)(MP:mg "dict"=none)(MO:mg "all"=none)(MR:mg "set"=none)(o:aC P w K mg base 3 "_law_draw" o_ (aA mg 3 l9))(LR:aC P w K mg base 4 "_law_pick" qV (aA mg 3 sD))(LQ:aC P w K mg base 9 "_law_hall" xS (aA mg 2 D8))(U:aC P w K mg base 9 "_law_leaves" uy (aA mg 2 (zX 8)))(Y:aC P w K mg base 1 "_law_least" pq (aA mg 2 qp))(Z:aC P w K mg base 11 "_law_heavy" ux (aA mg 2 vL))(LP:aC P w K mg base 12 "_law_agree" xP (aA mg 1 DW))(u:aC P w K mg base 15 "_law_ask" xQ (aA mg 2 mY))(LS:aC P w K mg base 14 "together" yt (aA mg 1 z3)):gx P w K mg base (bU P w) 17 fo fd Ce (aA mg 1 Ea):=by
 refine Qq T KQ rfl δ λN RE f cdv B outer s H E J hR L ds A R h hl=>?_;have I:=J.units;have nd:=KQ.nd;refine⟨_,(@aF _ _ _ _ _ _ (dS 1 nd (dO ah)) (@aF _ _ _ _ _ _ (dS 2 nd (dL LQ J L (aa (vr 0) (aa (vr 1) ah)))) (@aF _ _ _ _ _ _ (dS 3 nd (dO ah)) (@aF _ _ _ _ _ _ (d_ dP rfl (cz (vr 2)) (dG 4 nd) (@aG _ _ _ _ (f7 (ig iD pZ rM uq sU (vr 3) (aa (gQ (some 2) (own:=[κm,κb]) (aw:=[]) (ix:=[]) rfl (cz (dL U J L (aa (vr 4) (aa cH ah)))) (λc=>(pF rfl (iP (pG 0 (η:([κm,κb]:Ap).Nodup)) (iP (pG 1 (η:([κm,κb]:Ap).Nodup)) pH)))) (λc=>(vr 1))) ah))))) (@aF _ _ _ _ _ _ (dS 3 nd (FA G MR rfl (aa (vr 3) ah))) (@aF _ _ _ _ _ _ (dS 5 nd (dX I (AE none (own:=[κb]) (aw:=[κx]) (ix:=[3]) rfl (cz (gQ none (own:=["_law_sign"]) (aw:=[]) (ix:=[]) rfl (AI cH) (λc=>(pG 0 (η:(["_law_sign"]:Ap).Nodup))) (λc=>(fC cH (vr 0))))) (λc=>(pG 0 (η:([κb,κx]:Ap).Nodup))) (λc=>(uX I (vr 0) (vr 1))) (λc=>(vr 0))) ao)) (@aF _ _ _ _ _ _ (dS 6 nd (dO (aa sY (aa (dO (aa (bP (aa cH (aa ao ah))) ah)) (aa (bP (aa (bP (aa (vr 5) (aa ao ah))) ah)) (aa (bP (aa (bP (aa (dX I (vr 3) ao) (aa ao ah))) ah)) (aa (bP (aa (bP (aa (dX I (vr 3) ao) (aa ie ah))) ah)) (aa cH ah)))))))) (@aF _ _ _ _ _ _ (f7 (ig iD rO rX oY qB (vr 6) (aa (bP (aa (bP (aa (dX I (vr 3) ao) (aa ao ah))) (aa (bP (aa (dX I (vr 3) ao) (aa ao ah))) ah))) ah))) (@aF _ _ _ _ _ _ (cG (jv I (dL u J L (aa (vr 2) (aa (dL LR J L (aa (vr 0) (aa (vr 1) (aa (fC (vr 6) (dO (aa (bP (aa (bP (aa (dX I (vr 3) ao) (aa ao ah))) ah)) ah))) ah)))) ah))) (bP (aa cH (aa ao ah)))) (@aG _ _ _ _ (a_ ie)) cJ) (@aF _ _ _ _ _ _ (dS 7 nd (fC ao (dL o J L (aa (vr 0) (aa (vr 1) (aa ao ah)))))) (@aF _ _ _ _ _ _ (AL none (own:=[κb]) (aw:=[κa,κe]) (ix:=[0,1]) (i:=8) nd rfl (by first|exact Or.inl rfl|exact Or.inr rfl) rfl (cz (vr 3)) (λc=>(pG 0 (η:([κb,κa,κe]:Ap).Nodup))) (λc=>(jS I (dL o J nD (aa (vr 1) (aa (vr 2) (aa ao ah)))) ao)) (λc=>(vr 0))) (@aF _ _ _ _ _ _ (cG (fP (f9 (dL LP J L (aa (vr 2) ah)))) (@aG _ _ _ _ (a_ (tE I (dL u J L (aa (vr 2) (aa (i7 sO sW S lO (aa (gQ none (own:=[κb]) (aw:=[κg]) (ix:=[7]) rfl (cz (vr 8)) (λc=>(pG 0 (η:([κb,κg]:Ap).Nodup))) (λc=>(bP (aa (vr 0) (aa (vr 1) ah))))) ah)) ah))) (bP (aa cH (aa ao ah)))))) cJ) (@aF _ _ _ _ _ _ (dS 9 nd (i7 (vV rfl) v_ MP boot_dict (aa (dL LS J L (aa (vr 2) ah)) ah))) (@aF _ _ _ _ _ _ (s_ none (own:=[κb]) (aw:=[κg,κf]) (ix:=[7,9]) (i:=10) nd rfl (by first|exact Or.inl rfl|exact Or.inr rfl) rfl (cz (vr 8)) (λc=>(pG 0 (η:([κb,κg,κf]:Ap).Nodup))) (λc=>(bP (aa (vr 0) (aa (eT (vr 1) (dX I (vr 2) (vr 0))) ah))))) (@aF _ _ _ _ _ _ (cG (PW.pt (AN (jv I (vr 10) (dO ah)) (AO (jS I (dL o J L (aa (vr 0) (aa (vr 1) (aa ao ah)))) ao)))) (@aF _ _ _ _ _ _ (dS 11 nd (dL o J L (aa (vr 0) (aa (vr 1) (aa (eW ia a3 MQ iE (aa (vr 10) ah)) ah))))) (@aG _ _ _ _ (ON (vr 10) (vr 11) (bP (aa (dX I (dX I (vr 10) (vr 11)) ao) (aa (fC (dX I (dX I (vr 10) (vr 11)) ao) (dL o J L (aa (vr 0) (aa (vr 1) (aa ao ah))))) ah)))))) cJ) (@aF _ _ _ _ _ _ (dS 10 nd (i7 sO sW S lO (aa (AE (some 2) (own:=[κb,κt]) (aw:=[]) (ix:=[]) rfl (cz (vr 10)) (λc=>(pF rfl (iP (pG 0 (η:([κb,κt]:Ap).Nodup)) (iP (pG 1 (η:([κb,κt]:Ap).Nodup)) pH)))) (λc=>(Ll (vr 1) ao)) (λc=>(bP (aa (vr 0) (aa (vr 1) ah))))) ah))) (@aF _ _ _ _ _ _ (dS 12 nd wh) (@aF _ _ _ _ _ _ (d_ dP rfl (cz (vr 10)) (k8 rfl (fK (dG 13 nd) (fK (dG 14 nd) k9))) (@aG _ _ _ _ (d_ dP rfl (cz (Fz G rfl I (dL Z J L (aa (vr 2) (aa (vr 13) ah))))) (k8 rfl (fK (dG 15 nd) (fK (k8 rfl (fK (dG 16 nd) (fK (dG 17 nd) k9))) k9))) (@aF _ _ _ _ _ _ (dS 18 nd (dL Y J L (aa (eT (vr 16) (vr 14)) (aa (vr 17) ah)))) (@aF _ _ _ _ _ _ (cG (jv I (AF zd PySem.F.slot_dict_get PySem.F.type_dict_get TQ NW (vr 12) (aa (vr 15) (aa (vr 18) ah))) (vr 18)) (@aG _ _ _ _ (a_ (tE I (dL u J L (aa (vr 2) (aa (vr 10) ah))) (bP (aa cH (aa ao ah)))))) cJ) (@aG _ _ _ _ (wz I (vr 12) (vr 15) (vr 18) rfl))))))) (@aF _ _ _ _ _ _ (cG (jv I (dL u J L (aa (vr 2) (aa (vr 10) ah))) (Fz G rfl I (vr 12))) (@aG _ _ _ _ (a_ ie)) cJ) (@aF _ _ _ _ _ _ (dS 19 nd (dL u J L (aa (vr 2) (aa (i7 sO sW S lO (aa (AE none (own:=[κb]) (aw:=[κg,κf]) (ix:=[7,9]) rfl (cz (vr 8)) (λc=>(pG 0 (η:([κb,κg,κf]:Ap).Nodup))) (λc=>(Ll (eT (vr 1) (dX I (vr 2) (vr 0))) ao)) (λc=>(bP (aa (vr 0) (aa (eT (vr 1) (dX I (vr 2) (vr 0))) ah))))) ah)) ah)))) (@aG _ _ _ _ (a_ (eW (vU rfl) v9 MO boot_all (aa (gQ (some 2) (own:=[κb,κn]) (aw:=[κg,κf]) (ix:=[7,9]) rfl (cz (vr 19)) (λc=>(pF rfl (iP (pG 0 (η:([κb,κn,κg,κf]:Ap).Nodup)) (iP (pG 1 (η:([κb,κn,κg,κf]:Ap).Nodup)) pH)))) (λc=>(tE I (vr 1) (bP (aa (eT (vr 2) (dX I (vr 3) (vr 0))) (aa ao ah)))))) ah)))))))))))))))))))))))),?_⟩;obtain⟨ns,rfl,q⟩:=h;have hz:(1000:Nat)<=sizeLine:=δ
 refine⟨b_ _,rfl,ns,_,0,rfl,⟨[],aN,aJ _⟩,δ,λms A1 h1 h6 hF r1=>?_⟩;have tw1:=r1.tw;have S6:=bQ (nK tw1).1;refine⟨b_ _,?_⟩;dsimp only;refine K0 (a:=pL _ _ _) (λτ A'=>∃x4,τ=[some (.fl ns),some (.ref A.length),some (.tup (ms.map enc)),some (.ref A1.length),x4,none,none,none,none,none,none,none,none,none,none,none,none,none,none,none]/\A'[A1.length]?=some (.lst ((ms.flatMap cu.names).map D.str))/\Gr A1 A') ?_ λfin=>?_
 .rintro τ A2 ⟨x4,rfl,Bq,g2⟩
  have b1:=AY hF ms λx L=>L;refine Lc (ss:=ms.flatMap cu.names) Bq (by have:=strs_map id (ms.flatMap cu.names);simpa using this) ω λys yp ym=>?_;have n5:∀y∈ys,y∈N5:=λy hy=>by
   obtain⟨m,hm,hy'⟩:=fG.mp ((ym y).mp hy);exact(hF m hm).sub y hy'
  have y0:∃n0 rest,ys=n0::rest:=by
   cases ms with
   |nil=>simp at h1
   |cons m V=>
    have hpos:=cu.B4 m;cases e:m.names with
    |nil=>rw[e] at hpos;simp at hpos
    |cons n t=>
     have:=(ym n).mpr (fG.mpr ⟨m,θ,by rw[e];simp⟩);cases ys with
     |nil=>cases this
     |cons a b=>exact⟨a,b,rfl⟩
  have g3:=g2.trans (Gr.push (T:=[C.lst (ys.map D.str)]));have N3:Nh A.length A2.length ms 300 ys (A2++[C.lst (ys.map D.str)]):=⟨tw1.gr g3,by have:=g2.len;omega,aN⟩;generalize QK:A2++[C.lst (ys.map D.str)]=A3 at*
  generalize A2.length=q3 at*
  obtain⟨n0,aaa,Gk⟩:=y0;have hn0:n0∈ys:=by rw[Gk];simp
  have EE:d9 (ys.map D.str) 0=some (.str n0):=by rw[Gk];exact oj (j:=0) rfl
  have ar:=oO h6 hF;refine ic (f:=vC) trivial _ _ (λd hd=>?_) (by
   have OS:("abcdefghijklmnopqrstuvwxyz":Str).cps.size=26:=η
   simp[fE,OS];omega) ?_
  .obtain⟨c,hc,rfl⟩:=aP.mp hd
   exact⟨[.str ⟨#[c]⟩],rfl,λQ hQ=>⟨(δ:2+1<=sizeLine),hQ⟩⟩
  rw[fm];have LJ:∀x∈((fE ("abcdefghijklmnopqrstuvwxyz":Str)).map vC),∃z,x=.str z/\Nm z/\z∉N5:=λx L=>by
   obtain⟨d,hd,rfl⟩:=aP.mp L;obtain⟨c,hc,rfl⟩:=aP.mp hd;rw[Ez] at hc;obtain⟨i,hi,rfl⟩:=aP.mp hc;have:=pW.mp hi;exact⟨_,rfl,Y7 (c:=i+97) ω ω⟩
  have zne:0<((fE ("abcdefghijklmnopqrstuvwxyz":Str)).map vC).length/\((fE ("abcdefghijklmnopqrstuvwxyz":Str)).map vC).length<=100:=by
   rw[aM];unfold fE;rw[aM,Ez];simp
  generalize ((fE ("abcdefghijklmnopqrstuvwxyz":Str)).map vC)=zs at*
  refine dB aN ?_;refine sQ aN (λ_=>true) id _ _ (λx L=>?_) (by simp;omega) ?_
  .obtain⟨z,rfl,_,Rz⟩:=LJ x L
   refine⟨[.str z],rfl,λQ hQ=>?_,λQ hQ=>hQ⟩;exact T4 (a4 N3.at_) (λhy=>Rz (n5 z hy)) hQ
  have ef:(zs.filter λ_=>true).map id=zs:=by rw[map_id];exact List.filter_eq_self.mpr λ_ _=>rfl
  rw[fm,ef];obtain⟨v,hv,Rv⟩:=vR (xs:=zs) (k:=0) δ ω;obtain⟨lo,rfl,nlo,SW⟩:=LJ v Rv;refine iN aN hv ?_;have mX:Nh A.length q3 ms 300 ys (A3++[C.lst zs]++[C.lst zs]):=⟨(N3.tw.gr Gr.push).gr Gr.push,N3.ne,a4 (a4 N3.at_)⟩;generalize A3++[C.lst zs]++[C.lst zs]=A5 at*
  have hlo:∀T∈ms.map aI,lo∉af T:=λT hT hl=>SW (ar.sub T hT lo hl);have N6:∀X:Ar,Gr A5 X->Nh A.length q3 ms 300 ys X:=λX g=>⟨mX.tw.gr g,mX.ne,g.get mX.at_⟩;have xo:∀(X:Ar) (Q:DK),Gr A5 X->Q (.str n0) X->kB q3 (.int 0) X Q:=λX Q g hQ=>iN (N6 X g).at_ EE hQ;have s1:(1:Nat)<=sizeLine:=δ
  have s2:(2:Nat)<=sizeLine:=δ
  have s6:(6:Nat)<=sizeLine:=δ
  refine⟨s2,s1,s2,s1,xo _ _ Gr.push ⟨s2,s1,xo _ _ Gr.push ⟨s2,s1,s6,?_⟩⟩⟩;have Bl:∀(a b:C),Gr A5 (A5++[a]++[b]):=λa b=>Gr.push.trans Gr.push;refine⟨gn aN,xo _ _ (Bl _ _) ⟨s2,xo _ _ (Bl _ _) ⟨s2,s2,qv aN (by simp;omega) ?_⟩⟩⟩;generalize hX:A5++[C.lst [D.tup [D.str "a",D.int 1]]]=X;generalize hO:([.aD,.ref A5.length,.tup [.tup [.str lo,.int 1]],.tup [.tup [.str n0,.int 0]],.tup [.tup [.str n0,.bl true]],.str "a"]:Bi)=O;generalize QW:(.tup [.tup [.str n0,.int 1],.tup [.str n0,.int 1]]:D)=o7;have Rq:=get_set (ys:=O++[o7]) (aN (A:=X) (c:=C.lst O));have b7:eK X.length (X++[C.lst O]) ((X++[C.lst O]).set X.length (C.lst (O++[o7]))):=eK.set;have l5:X.length=A5.length+1:=by rw[<-hX];simp
  have Rp:=b7 A5.length (C.lst [D.tup [D.str "a",D.int 1]]) ω (a4 (by rw[<-hX];exact aN));have ZM:=bQ mX.at_;have ZR:=bQ (nK mX.tw).1;have gX:Gr A5 (X++[C.lst O]):=by rw[<-hX];exact Bl _ _
  have N7:Nh A.length q3 ms 300 ys ((X++[C.lst O]).set X.length (C.lst (O++[o7]))):=by
   obtain⟨xs,hxs,hle⟩:=mX.tw.gr gX;exact⟨⟨xs,b7 _ _ ω hxs,hle⟩,mX.ne,b7 _ _ ω (gX.get mX.at_)⟩
  generalize (X++[C.lst O]).set X.length (C.lst (O++[o7]))=A7 at*
  generalize X.length=ro at*
  generalize A5.length=rl at*
  subst hO QW;refine iN N7.at_ EE ⟨s2,s1,s1,ow (a4 Rq) aN (by simp;omega) ⟨rfl,ns,_,_,_,300,rfl,?_,aN,θ,(N7.tw.gr Gr.push).gr Gr.push,δ,λx A8 tW b8 t8=>?_⟩⟩
  .have:=bQ (nK N7.tw).1
   simp;omega
  have N8:Nh A.length q3 ms 301 ys A8:=⟨t8,N7.ne,b8 _ _ N7.ne (a4 (a4 N7.at_))⟩;obtain⟨Ul,Xl,T6⟩:=Uh (Ts:=ms.map aI) (A:=A8) (x:=x) (rl:=rl) (lo:=lo) (n0:=n0) tW hlo (jt n0 (n5 n0 hn0)) nlo (b8 _ _ ω (a4 (a4 Rp)));refine⟨rfl,.tup (ms.map enc),N5,x,rfl,⟨ms,BB h1 h6 hF⟩,jt,Ul,Xl,λV hH=>?_⟩;obtain rfl:=wM hH;refine⟨ar,λ_ A9 g9=>?_,λrs e hw hi=>absurd ⟨rs,e,hw,hi⟩ T6⟩;refine⟨s2,Cn (neg:=true) ?_⟩;have N9:Nh A.length q3 V 301 ys A9:=⟨N8.tw.gr g9,N8.ne,g9.get N8.at_⟩;refine⟨rfl,ns,_,5,301,rfl,N9.tw,δ,δ,λi DB i0 i1 MM XJ=>?_⟩;have DS:Nh A.length q3 V 302 ys DB:=⟨XJ,N9.ne,MM _ _ N9.ne N9.at_⟩;have yl:ys.length<=5:=by
   have:=iu ys N5 (uO yp) n5;simpa[N5] using this
  refine dB DS.at_ ?_;refine Ak (λrest so' A'=>∃(W l M:Ap),W++l=ys/\rest=l.map D.str/\so'=M.map D.str/\M.Sublist W/\Nh A.length q3 V (302+W.length) ys A') ?_ ?_ ?_ ?_ _ _ _ ⟨[],ys,[],rfl,rfl,rfl,List.Sublist.refl _,DS⟩
  .rintro rest so' A' ⟨W,l,M,_,_,_,_,n⟩
   exact n.at_
  .rintro x rest so' A' ⟨W,l,M,e1,e2,rfl,sub,n⟩
   cases l with
   |nil=>cases e2
   |cons y l=>
   cases e2;refine⟨[.str y],rfl,λQ h1 h2=>?_⟩;have dl:W.length<=5:=by
    have:=bM List.length e1;simp at this;omega
   refine⟨rfl,ns,_,3,_,rfl,n.tw,ω,δ,λk A'' k0 k1 b'' t''=>?_⟩;have n2:Nh A.length q3 V (302+(W++[y]).length) ys A'':=⟨by rw[eE,List.length_singleton];exact t'',n.ne,b'' _ _ n.ne n.at_⟩;by_cases c:k=0
   .show Q (decide (k=0)) A''
    rw[dg c];refine h1 _ λQ2 hq=>hq _ _ (by rw[aM];have:=sub.length_le;omega) ⟨W++[y],l,M++[y],by rw[<-e1];simp,rfl,by rw[c_];rfl,sub.append (List.Sublist.refl _),n2⟩
   .show Q (decide (k=0)) A''
    rw[d8 c];exact h2 _ ⟨W++[y],l,M,by rw[<-e1];simp,rfl,rfl,sub.trans (List.sublist_append_left _ _),n2⟩
  .rintro rest so' A' ⟨W,l,M,e1,_,rfl,sub,_⟩
   have:=sub.length_le;have:=bM List.length e1;simp at this;rw[aM];omega
  rintro so' qg ⟨W,l,M,e1,e2,rfl,sub,ur⟩;obtain rfl:l=[]:=by simpa using e2.symm
  rw[lN] at e1;subst e1;have yL:M.Pairwise strLt:=yp.sublist sub;have sin:∀n∈M,n∈W:=λn hn=>sub.subset hn;have s5:M.length<=5:=by have:=sub.length_le;omega
  have hT:∀n∈W,∃T∈V.map aI,n∈af T:=λn hn=>by
   obtain⟨m,hm,hn'⟩:=fG.mp ((ym n).mp hn);exact⟨aI m,aP.mpr ⟨m,hm,rfl⟩,((rD (hF m hm).hl).2.1 n).mpr hn'⟩
  have h8:=aN (A:=qg) (c:=C.lst (M.map D.str));have tL:Gr qg (qg++[C.lst (M.map D.str)]):=Gr.push;have Mx:Nh A.length q3 V 310 W (qg++[C.lst (M.map D.str)]):=⟨(ur.tw.mono ω).gr tL,ur.ne,tL.get ur.at_⟩;have xr:=bQ ur.at_;have ZD:=bQ (nK ur.tw).1;generalize qg++[C.lst (M.map D.str)]=Y_ at*
  generalize qg.length=q8 at*
  have YS:∀(f:Str->Int),(∀n∈M,1<=f n/\f n<=999999)->j_ (M.map λn=>(n,f n))/\∀p∈M.map λn=>(n,f n),∃T∈V.map aI,p.1∈af T:=λf hf=>by
   refine⟨⟨λr J=>?_,λr J=>?_,?_,by rw[aM];omega⟩,λp hp=>?_⟩
   .obtain⟨n,hn,rfl⟩:=aP.mp J
    exact jt n (n5 n (sin n hn))
   .obtain⟨n,hn,rfl⟩:=aP.mp J
    exact hf n hn
   .rw[br]
    show(M.map λn=>n).Pairwise strLt;rw[map_id'];exact yL
   .obtain⟨n,hn,rfl⟩:=aP.mp hp
    exact hT n (sin n hn)
  refine⟨rfl,V,rfl,h6,hF,λb Za hb wH=>?_⟩;cases b with
  |false=>
   have nw:∀w,¬Cs (V.map aI) w:=λw hw=>by cases hb.mpr ⟨w,hw⟩
   refine dB (wH.get h8) ?_;refine ic (f:=λd=>match d with|.str n=>aR (n,1+i)|d=>d) (wH.get h8) _ _ (λd hd=>?_) (by simp;omega) ?_
   .obtain⟨n,hn,rfl⟩:=aP.mp hd
    exact⟨[.str n],rfl,λQ hQ=>⟨s2,hQ⟩⟩
   have em:(M.map D.str).map (λd=>match d with|.str n=>aR (n,1+i)|d=>d)=(M.map λn=>(n,(λ_=>1+i) n)).map aR:=by
    rw[br,br];rfl
   rw[fm,em];refine uY aN ?_;obtain⟨C_,Dc⟩:=YS (λ_=>1+i) λn _=>⟨ω,ω⟩;refine⟨rfl,_,N5,_,rfl,⟨V,BB h1 h6 hF⟩,jt,IA C_.nm,λxs e=>?_,λms2 hH=>?_⟩
   .cases e
    rw[aM];exact C_.len
   .obtain rfl:=wM hH
    refine⟨ar,λhn=>absurd ⟨_,rfl,C_,Dc⟩ hn,λ_ _ _ _=>⟨λ_ _ _=>⟨s2,Cn (neg:=false) (q _)⟩,λJ=>?_⟩⟩;obtain⟨w,Rw⟩:=Uk ar J;exact absurd Rw (nw w)
  |true=>
   obtain⟨w,hw⟩:=hb.mp rfl;exact Yp (K:={nx:=λx A'=>R D.aD A',rt:=R}) (BB h1 h6 hF) h6 hF hw (λA'=>q A') yL s5 (λn hn=>hT n (sin n hn)) i0 i1 (Mx.tw.gr wH) δ (wH.get h8) ω
 .refine dW (λrest τ A'=>∃(W l:Fm) (x4:Option D),rest=l.map enc/\W++l=ms/\τ=[some (.fl ns),some (.ref A.length),some (.tup (ms.map enc)),some (.ref A1.length),x4,none,none,none,none,none,none,none,none,none,none,none,none,none,none,none]/\A'[A1.length]?=some (.lst ((W.flatMap cu.names).map D.str))/\Gr A1 A') ?_ ?_ ?_ _ _ _ ⟨[],ms,none,rfl,rfl,rfl,aN,Gr.push⟩
  .intro _ _ _ _
   trivial
  .rintro v rest τ A2 ⟨W,l,x2,e,nh,rfl,k1,g1⟩ Nx hN
   cases l with
   |nil=>cases e
   |cons m l=>
   cases e;have hm:m∈ms:=by rw[<-nh];simp
   have fd:=(hF m hm).deep;have ln:=o5 (m:=m) ω;refine⟨gn k1,rfl,_,⟨m,"",rfl,ω,η,δ,rfl⟩,λA3 q2 g2 h2=>?_⟩;refine dB h2 ?_;refine ic (f:=λd=>match d with|.tup [_,y]=>y|d=>d) h2 _ _ (λd hd=>?_) (by simp[xD];omega) ?_
   .obtain⟨p,hp,rfl⟩:=aP.mp hd
    exact⟨[.str p.1,.str p.2],rfl,λQ hQ=>hQ⟩
   have en:((nB m "").map BY).map (λd=>match d with|.tup [_,y]=>y|d=>d)=m.names.map D.str:=by
    rw[br,<-uh m "",br];rfl
   rw[fm,en];have b1:=AY hF W λx L=>by rw[<-nh];simp[L]
   have b3:W.length<=6:=by
    have:=bM List.length nh;simp at this;omega
   refine qI (a4 (g2.get k1)) aN (by rw[aM,aM];omega) ?_;refine hN _ _ ⟨W++[m],l,_,rfl,by simpa using nh,rfl,?_,((g1.trans g2).trans Gr.push).set (aJ _)⟩;rw[qf,c_];have:[m].flatMap cu.names=m.names:=θ
   rw[this];exact eG (bQ (a4 (g2.get k1)))
  .rintro τ A2 ⟨W,l,x2,e,nh,rfl,k1,g1⟩
   cases l with
   |cons _ _=>cases e
   |nil=>
   have nh:W=ms:=by simpa using nh
   subst nh;exact fin _ _ ⟨_,rfl,k1,g1⟩
def a9:Ap->(BM->Prop)->Prop
 |[],p=>p []
 |_::l,p=>∀x,a9 l λd=>p (x::d)
theorem bc:∀{l:Ap}{p:BM->Prop},a9 l p->∀d,d.length=l.length->p d
 |[],_,h,[],_=>h
 |_::_,_,h,_::_,e=>bc (h _) _ (Nat.succ.inj e)
theorem tD{K:Frag}{h:Heap}{mg:ay}{x:Str}{st:Stmt}{ps:Ap}{f:Addr}{g:Value}{i an:Option Addr}{e:Array (Option Value)}{kV doc pm b ct:Value}(X:K.In h)(G:h.Ns mainGlobals mg)
  (a:nsIn K mainGlobals x=some (some (.ref f)):=by k_is)(l:K.lookup f=some ⟨g,i,.func (fnOf x x (m8 st) (ir st) (aO st) .none kV doc pm an b ct),e⟩:=by k_is)(c:codeIn K b x=true:=by k_is)(k:keepIn K (.ref f)=true:=by k_is)
  (j:∀(kV doc pm:Value) (an:Option Addr) (b ct:Value),a9 ps λd=>bindArgs (fnOf x x (m8 st) (ir st) (aO st) .none kV doc pm an b ct) ⟨d,[]⟩=pure (ps.zip d):=by(repeat intro _);exact rfl):TopD K mg x st ps:=
 ⟨f,_,Bd l c k,(Bd l c k).binds λ_ _ _ _ _ _=>bc (j _ _ _ _ _ _),mg_of X G a⟩
theorem bN{K:Frag}{h:Heap}{mg:ay}{x:Str}(X:K.In h)(G:h.Ns mainGlobals mg)(a:nsIn K mainGlobals x=some none:=by k_is):mg x=none:=PySem.W.mg_none_of X G a
theorem eX{K:Frag}{h:Heap}{mg:ay}{x:Str}{v:Value}(X:K.In h)(G:h.Ns mainGlobals mg)(a:nsIn K mainGlobals x=some (some v):=by k_is):mg x=some v:=mg_of X G a
theorem Ng{K:Frag}{C:Addr}{a:BM}{newId:String}(q:excIn K C a newId=true):(PySem.W.clsIn K C).isSome=true:=by
 unfold excIn at q;split at q
 .rename_i b
  unfold PySem.W.clsIn;rw[b];rfl
 .cases q
theorem Gg{K:Frag}{h:Heap}{mg:ay}{x:Str}{e:Addr}(X:K.In h)(m:mg x=some (.ref e))(h1:findIn K (.ref e) "__getattribute__"=some (some (.builtin "BaseException.__getattribute__")):=by k_is)(h2:findIn K (.ref e) "__getattr__"=some none:=by k_is)
 (a:findIn K (.ref e) "__class__"=some (some (.builtin "object.__class__")):=by k_is)(b:specialIn K (.builtin "object.__class__") "__get__"=some (some (.builtin "getset_descriptor.__get__")):=by k_is)(c:takesIn K (.builtin "object.__class__")=some true:=by k_is)
 (d:mroIn K e (.type "object")=some true:=by k_is)(f:mroIn K e (.type "BaseException")=some true:=by k_is)(x:excIn K e mG "ValueError.__new__"=true:=by k_exc):n9 K e:=⟨h1,h2,a,b,c,d,f,Ng x⟩
theorem walk{l:PySem.W.OpenLaw}{q:Program}{loose:Ap}{i:(ay)->Heap->Prop}{c:World->Heap->Prop}{d:DefRec}{K:Params->Frag}(j:l.most=some 63)(b:d.params.defaults=[])(m:∀p,(K p).all (λp=>o6 p.2)=true)
  (o:∀(w:World) (h:Heap),c w h->(K w.params).In h)
  (F:∀(w:World) (mg:ay) (g:Addr) (h:Heap),(K w.params).In h->h.Ns mainGlobals mg->mg d.name=some (.ref g)->
   ∃fd:FuncData,(∀(s:Shared) (u:Value),BindsTo s fd ⟨[u],[]⟩ [(κa,u)])/\∀base:Heap,(K w.params).In base->base.Ns mainGlobals mg->gx l.prog w (K w.params) mg base (bU l.prog w) 17 g fd [κa] rA):
  PySem.W.WalkO q loose i c l.row.toRowW d [] (λf vs=>PySem.call f vs):=
 L2.YM (n:=63) (k:=17) (x:=κa) (CX:=λw=>bU l.prog w) (sp:=λ_=>rA) j δ b ⟨rfl,δ,δ⟩ o F (λw H a ns _ r t=>Qt (m w.params) r t) λw H s e s' z=>by
  obtain⟨_,_,_,_,_,z⟩:=z
  exact z
theorem SD{P:Program}{w:World}{K:Frag}{h:Heap}{mg:ay}{o j:Addr}{k b:Option Addr}{l:Array (Option Value)}{m c d g a i:Value}(X:K.In h)(G:h.Ns mainGlobals mg)(n:mg "law"=some (.ref o))
  (p:nsIn K mainGlobals "law"=some (some (.ref j)))(q:K.lookup j=some ⟨m,k,.func (fnOf "law" "law" (m8 mC) (ir mC) (aO mC) .none c d g b a i),l⟩)(r:codeIn K a "law"=true)(t:keepIn K (.ref j)=true)
  (go:∀(base:Heap) {f:Addr} {fd:FuncData},lW K "law" "law" mC f fd->gx P w K mg base (bU P w) 17 f fd Ce rA):
  ∃fd:FuncData,(∀(s:Shared) (v:Value),BindsTo s fd ⟨[v],[]⟩ [(κa,v)])/\∀base:Heap,K.In base->base.Ns mainGlobals mg->gx P w K mg base (bU P w) 17 o fd [κa] rA:=by
 have e:=n.symm.trans (mg_of X G p)
 cases e
 exact⟨fnOf "law" "law" (m8 mC) (ir mC) (aO mC) .none c d g b a i,λs v=> .of_eq rfl,λbase _ _=>go base (Bd q r t)⟩
end L2
end
open PySem PySem.W PyProof.Rows
set_option maxHeartbeats 0
structure PySem.W.Fast:Prop where (tw14565488149242027402 tw861502493610598483 tw1286537293598278779 tw7774113678449685934 tw1655623019343174337 tw7972597371183930068 tw13797646191491285992 tw14920823985818648580 tw7717739269364935801 tw16945406819829945896 tw771822569319705768 tw16225155776284182838 tw14074196154385387334 tw12188032599808994241 tw17029562028150658980 tw18293242582946804979 tw15805137534098808535 tw17724038513149304489 tw1478030337931831861 tw13421457143807847188 tw2786648768249225349 tw6512149657230936976 tw16902440903046159558 tw15163409612377130007 tw14170518179582410385 tw7943549864190904611 tw12960429369202013873 tw17653592248189364939 tw14847308668706973960 tw15577281813014381367 tw3953844824629472508 tw2595585439558603231 tw17659185236578331656 tw209982475168477708 tw256976265262469064 tw16728255500844073214 tw2474200967059427378 tw12740759652641322565 tw11962351593759143498 tw1956260828630720203 tw9848817304349107530 tw3671519592330383864 tw14746253646979254834 tw13114645530532618160 tw17334828202450815106 tw6968137755033780318 tw6420159726195949164 tw16615150188913437886 tw8080008513338510535 tw1972164579936704799 tw12147665669636231765 tw15173544498738437827 tw8422229294311615681 tw13547939009206843870 tw15590096980072825465 tw539538531456391632 tw4436474186459923750 tw14022695629967993375 tw8157277791214410489 tw561727478393794602 tw4804111812005502284 tw9387514328989991554 tw772564365185477556 tw12903330217458380548 tw2135409205425526673 tw8737599933303070863 tw4015202173357781934 tw12431713363859531893 tw28018229315631829 tw15861351967447197489 tw1719895430356276633 tw15779231459743154856 tw10826640976665885199 tw17435391645217708394 tw8285278889055680438 tw10879749546641988924 tw8159993647027272844 tw13913613514976480042 tw13674586047789940208 tw384561282630992784 tw6427576097997697322 tw2080317491765294665 tw4480162626587320490 tw1725486776273817318 tw14520296925931582552 tw14537775516033599862 tw7485256538410118956 tw13462424878891718212 tw14226173905949225808 tw2244103112122482387 tw5002640475654186023 tw7480016910919988345 tw11692469974320434101 tw5994696166404524948 tw2741014181512449073 tw11513857634932158529 tw5217270863462422736 tw4859391219904099992 tw2466311954974566718 tw6030501089693204938 tw6472337539984862722 tw14611616552423853409 tw10295913840692754127 tw9757595895972200118 tw9536688357841153863 tw5667099127317398114 tw6782663255696616371 tw547895379624588593 tw18073898193381586223 tw15685335758407661847 tw9689729476882780088 tw615563214671542189 tw1607123104830579860 tw4309217394794523951 tw1142673529048489019 tw9784134513789038367 tw14961746396406840608 tw1840220198017710270 tw6148498323302512570 tw443766864951011646 tw14689541978594310382 tw1915925776726481438 tw10698057553749749337 tw6056707288978253535 tw10042083083395451092 tw15166322114958858414 tw4906484309439969231 tw13946496683202179788 tw6858818405166986180 tw11907897558876765624 tw1205274952441263945 tw3300257896294614128 tw4734895289157585001 tw17214186515701724070 tw3419001889969749887 tw16723463757517087524 tw16279288168775177219 tw14842496431369740429 tw6356304189028158447 tw10510056951384868246 tw3300454383303005205 tw2483420100392427323 tw446995266069924076 tw4849480874435393781 tw6557801498797044033 tw6229817132586351632 tw3382625519597670723 tw2789304352393801511 tw2646887283097553488 tw2261719852989239553 tw18157406047293677543 tw14904681115217272601 tw13135312941875745310 tw140001813534094272 tw2107523057676978006 tw8739830900816887780 tw5101696844757716304 tw4075453323654395381 tw11898673842065290130 tw9860861378791804195 tw14424681132571578402 tw16864618592142003386 tw14935467056822913822 tw3239113980409921550 tw3543459598558145280 tw8733291241859026926 tw87601786513091389 tw11564986514327137767 tw12382822922155266910 tw2941924889016668590 tw12770481643036789091 tw12954591660760965231 tw2827255003249426055 tw12768989823518198380 tw15240619367488684849 tw8997383693586321770 tw14391293386007564604 tw18146532975450069615 tw15227483606004533461 tw740290905518256060 tw11266997524610791606 tw11853640710764476214 tw140236481695663071 tw10159399881129095643 tw5000232492035539693 tw13055953723892786844 tw16120054744476736488 tw9404705873571188630 tw726351398001015727 tw4493901809537577575 tw3049343062529576306 tw17613222154834848340 tw10741264400317747893 tw7322748291113730364 tw4323258101793500111 tw3721919958574915784 tw3303267245142563540 tw855453113358079251 tw17339309145561079191 tw13437419889732721216 tw13160504802963445071 tw4096438862311573950 tw3919386906821981792 tw9592521066531166775 tw5459702643516471331 tw5323657890516693427 tw8331849164307833061 tw6105849179199505303 tw3681537716864247207 tw1922157984580058403 tw1825952489489211193 tw15925456577456769635 tw14903569129155370506 tw1293241653719404408 tw16203965252921439515 tw15433366417846715934 tw7374399212775623666 tw4971374062829452455 tw1070438729232803039 tw2694234056635809718 tw16682895059504647277 tw14387916025512776202 tw3374319085511977134 tw17590705303994421779 tw14963028359598502718 tw3778530596728393105 tw10519837036962490867 tw6162269159774324313 tw13769103115541136327 tw15438627641174518403 tw16053306600634468012 tw8972062959192195235 tw2692750590507578028 tw10016166984437732892 tw4953865588907285216 tw1158361714356455011 tw9116068151291705539 tw13622603851894308203 tw13810262117814702294 tw14243238205550065757 tw977512076041815475 tw6128145076113358165 tw5872530126848033075 tw12269216009862288129 tw4547051000311932777 tw16766683885213920930 tw896878414759379649 tw9582823730064241283 tw15528221797031607849 tw938635154573522699 tw18437792190763421558 tw13469501207593853456 tw9464783005390448368 tw17744993626210230056 tw6278996535519779258 tw1467881925912835984 tw18183970276198133131 tw5622701340561072331 tw9456574344343218679 tw896239598344801917 tw8912161614967838395 tw5438652380644606353 tw4635989785427082552 tw3985964047577975286 tw16409965706819354750 tw13757698761724263525 tw12772213712371865176 tw6702445572142316249 tw17464319187374939960 tw17062427158221528723 tw5344687154915797982 tw12297992134047619483 tw12322387634922577031 tw643336161829623379 tw10374632558016547081 tw2399617604181995578 tw13444670453868202053 tw4548300405975405348 tw447263597446747957 tw16822532161544500889 tw11066385474520676512 tw8219003486749837733 tw8047209995159408440 tw7424060955962978353 tw5449601097390414333 tw3641951560692057861 tw3042748168174471775 tw17760279517084355780 tw14782755387869428366 tw11401859456886640639 tw6953138203311097117 tw8949853181751564097 tw8899516883271353254 tw7476452910721959123 tw4562827626845409882 tw2400638427578300857 tw17292613610259460706 tw17187875760726034783 tw12727641955093265886 tw10294118229990073760 tw4077048163395320219 tw9977182230042388008 tw5702276774652866934 tw3235425350174046738 tw2353497105660221152 tw18101783494082082527 tw17351735930882485243 tw16670775579421159206 tw11429584451438056573 tw9495317472360511255 tw7086961617601330827 tw5498123283257192965 tw2187251505897268136 tw2144661209622563809 tw16955839230299176341 tw11766667032028208565 tw11421057715548341654 tw10792498714594961201 tw9950792792127014553 tw9947508896943372755 tw9919008367099125623 tw991626836265849350 tw9879335643197240621 tw9806118890596472461 tw9796564346219866840 tw9646623106273453227 tw9615563845995560447 tw9461873434466728008 tw9402243437249704421 tw9331231397406362311:True)
open L2 MA
open_top hd for PySem.Challenge.rw_hangstill_k09_whole_settled
abbrev a8:=PySem.Challenge.rw_hangstill_k09_whole_settled
theorem PySem.Challenge.cw_hangstill_k09_whole_settled_holds : PySem.Challenge.rw_hangstill_k09_whole_settled.Holds := by
 refine hd ?_;k_fill;refine L2.walk (l:=a8) rfl rfl ?K (λw h Y=>PySem.W.kIn_of Y) ?F;case K=>exact λp=>(Eq.refl true:true=true)
 case F=>
  intro w mg fa h a G hmg;refine' L2.SD a G hmg ?a ?l ?c ?k ?Q;(case a|l|c|k=>k_is);case Q=>
   intro b f fd T;have I:mg "HangError"=some _:=eX a G;have o:mg "NoMobile"=some _:=eX a G;have q:mg "NoHall"=some _:=eX a G;have c:mg "NoWeights"=some _:=eX a G;have J:mg "NoWay"=some _:=eX a G;have L:mg "NoNumber"=some _:=eX a G;have d:mg "Never"=some _:=eX a G;have M:mg "TooLong"=some _:=eX a G;have N:mg "TooDeep"=some _:=eX a G;have e:=Gg a c;have g:=Gg a d;have O:=Ph (P:=a8.prog) (w:=w) (base:=b) (tD a G) (bN a G) (bN a G) (bN a G);have R:=Pe (P:=a8.prog) (w:=w) (base:=b) (tD a G) (bN a G) (bN a G) (bN a G) (bN a G) (eX a G);have S:=PR (P:=a8.prog) (w:=w) (base:=b) (tD a G) (bN a G) (bN a G) (bN a G);have U:=PO (P:=a8.prog) (w:=w) (base:=b) (tD a G) (bN a G) (bN a G) (bN a G) (bN a G) (eX a G);have V:=PM (tD a G) (bN a G) (bN a G) (bN a G) (bN a G) (eX a G) U S 6;have r:=PN (tD a G) (eX a G) V;have X:=Pr (tD a G) o (by k_exc) r;have s:=PB (P:=a8.prog) (w:=w) (base:=b) (tD a G);have t:=Qc (tD a G) s;have k:=P8 (tD a G) t;have u:=P_ (tD a G) t;have Z:=Qi (tD a G) k 6;have v:=Qh (tD a G) X Z;have LW:=Pn (tD a G) v;have Mf:=P5 (tD a G) (bN a G) v;have Mr:=Qj (P:=a8.prog) (w:=w) (base:=b) (tD a G) (bN a G);have Mj:=P9 (tD a G) (bN a G) Mr;have m:=PC (tD a G) Mj;have LX:=Pp (P:=a8.prog) (w:=w) (base:=b) (tD a G) (bN a G);have x:=Px (tD a G) k u;have L3:=Pw (P:=a8.prog) (w:=w) (base:=b) (tD a G) (bN a G) (bN a G);have Ml:=Qd (tD a G) m L3 LX x;have y:=P4 (tD a G) d (by k_exc) Ml;have L0:=Pu (tD a G) (bN a G) (bN a G) (bN a G) (eX a G) q (by k_exc) r LW;have z:=PK (tD a G) L0 Mf;have Me:=Pf (tD a G) (bN a G) (bN a G) (bN a G) (eX a G) R O;have L7:=Pd (tD a G) (bN a G) (bN a G) (bN a G) (bN a G) (bN a G) Me;have LY:=Pc (tD a G) c (by k_exc) L7;have L4:=Py (tD a G) (bN a G) c (by k_exc) LY;have L8:=PY (tD a G) s;have L_:=PZ (tD a G) (bN a G) (bN a G) (bN a G) L8;have A:=PD (tD a G) (bN a G) x;have Ms:=Qk (tD a G) (bN a G) (bN a G) z y m L_ A;have Mn:=Qf (tD a G) d (by k_exc) k u;have Mm:=Qe (tD a G) (bN a G) z L4 y m Mn A;have LZ:=Pq (P:=a8.prog) (w:=w) (base:=b) (tD a G) (bN a G);have Ma:=P1 (tD a G) LZ;have i:=Pz (tD a G) (bN a G) Ma;have n:=P7 (tD a G) (bN a G) i;have B:=PX (P:=a8.prog) (w:=w) (base:=b) (tD a G) 8;have Mi:=P6 (tD a G) (bN a G) (bN a G) i n 3;have L5:=PF (tD a G) (bN a G) (bN a G) (bN a G) i n Mi;have j:=PV (P:=a8.prog) (w:=w) (base:=b) (tD a G);have Mp:=Qg (tD a G) j 3;have C:=Po (tD a G) (bN a G) (bN a G) (bN a G) B Mp;have D:=PL (tD a G) (bN a G) (bN a G) C j;have Mk:=Qa (tD a G) j;have LU:=Pj (tD a G) (bN a G) (bN a G) C D Mk;have Mu:=Ql (P:=a8.prog) (w:=w) (base:=b) (tD a G) (bN a G) (bN a G) o q c J L d M N (a7 c e d g) (a7 c e d g) (a7 c e d g) (a7 c e d g) (a7 c e d g) (a7 c e d g) (a7 c e d g) (a7 c e d g) (a7 c e d g);have LV:=Pk (tD a G) I c d (by kts_exm) (by kts_exm) Mm Mu;exact(PU T (bN a G) (bN a G) (bN a G) (bN a G) (bN a G) (bN a G) (bN a G) i n (L5.mono δ) B j D LU LV Ms).imp λvs H Q E h=>Xu h
