import PyProof.Rows.All
import Wide.All
import OpenK.AllK
import Wide.FinOn
import Lean
import PyProof.EqAt
import PyProof.EqKinds
import PyProof.NeKinds
import PyProof.TupleCall
import PyProof.ZipIter
import PyProof.ListNew
import PyProof.P3Eq
import PyProof.NeData
import PyProof.EnumFor
import PyProof.EnumMake
import PyProof.ExcBaseAll.ValueError
import PyProof.Rows.SetFrom
import PyProof.CollectWalk
import PyProof.SumWalk
import PyProof.FString
import KE.KDictOf
import PyProof.AttrMissHeap
import PyProof.TupleOfGen
import KE.KDictSum
import PyProof.ConsumeS
import PyProof.P3In
import PyProof.Rows.RuleN_abs
import PyProof.Rows.FactsN_abs
import PyProof.StrBlockI
import PyProof.SliceStr2
import PyProof.Rows.StrClose
import PyProof.FactsAll.tuple_2
import PyProof.MinMaxWalk
import PyProof.WalksMore
import PyProof.Rows.RowHeap
import PyProof.DictWalks
import KE.KSortTup
import PyProof.Rows.ListMul
import PyProof.ListRange
import PyProof.TupleOfStr
import KE.KRevSl
import KE.KDictList
import KE.KIntText
import PyProof.ReprStr
import KE.KRevIter
import PyProof.DictUpdate
import PyProof.StrOps
import KE.KEqDict
import KE.IntBitsLaws
import PyProof.Rows.SortRuns
import PyProof.Rows.SortKey
import PySem.Challenge.RW_hangstill_k36_whole_written_and_turned
import PyProof.StrLawsTight
import PyProof.StrLawsReplace
import PyProof.Rows.RegReprOcc
import KE.RegKIsAll
import KE.RegKTryMore
set_option Elab.async false
set_option linter.all false
set_option maxRecDepth 100000
set_option maxHeartbeats 4000000
open PySem.Heap (ExtBut SameBut)
open PySem.W (Frag codeIn excIn findIn fnOf hideAll hideAll_get instObj keepIn kitOne kitx_dict kitx_list kitx_tuple lookIn methodObj mg_of nsIn of_hideAll plainGet)
open Nat (add_sub_cancel add_zero le_succ lt_trans pow_pos sub_self)
open List (Pairwise Perm any_cons cons_append drop_take foldl_cons foldl_nil le_antisymm length_nil lookup_cons map_append mem_range nodup_cons not_lt of_mem_zip range replicate take_add take_take)
open Array (toList toList_inj)
open Option (getD_none getD_some map_some)
open Int (emod_nonneg)
open PySem.F (args_str_split_2 args_tuple_add_2 entry_str_split entry_tuple_add slot_str_count slot_tuple_add type_str_count)
open PySem.PyData (canLay0 canLayAll0 depthAll eqvAll strOk)
abbrev vB:= @_root_.PyProof.Rows.slot_tuple_getitem
abbrev qY:= @_root_.PySem.F.slot_list_append
abbrev vG:= @_root_.PySem.F.slot_list_getattribute
abbrev vM:= @_root_.PySem.F.slot_tuple_getattribute
abbrev rG:= @_root_.PySem.F.type_list_append
abbrev gY:= @_root_.PySem.Around.under_plainId
abbrev vN:= @_root_.Array.getD_eq_getD_getElem?
abbrev fZ:= @_root_.Array.getElem?_eq_getElem
abbrev j3:= @_root_.Bool.eq_iff_iff
abbrev bR:= @_root_.Bool.false_ne_true
abbrev jP:= @_root_.PySem.F.plain_min_loop
abbrev vC:= @_root_.PyProof.Rows.F.plain_set_update_loop
abbrev qZ:= @_root_.Int.emod_lt_of_pos
abbrev q_:= @_root_.Int.toNat_natCast
abbrev rq:= @_root_.PyProof.Rows.KeyOrd.kle_of_klt
abbrev gR:= @_root_.PyProof.Rows.KeyOrd.kle_refl
abbrev nY:= @_root_.PyProof.Rows.KeyOrd.kle_trans
abbrev rD:= @_root_.List.extract_eq_take_drop
abbrev vE:= @_root_.List.filterMap_cons
abbrev vF:= @_root_.List.getElem?_cons_succ
abbrev vH:= @_root_.List.getElem?_eq_none
abbrev cT:= @_root_.List.getElem?_eq_some_iff
abbrev rE:= @_root_.List.lt_irrefl
abbrev vI:= @_root_.List.mem_of_getElem?
abbrev vJ:= @_root_.List.perm_iff_count
abbrev vK:= @_root_.List.set_append_right
abbrev rF:= @_root_.Nat.add_sub_cancel_left
abbrev n6:= @_root_.Nat.exists_eq_succ_of_ne_zero
abbrev iQ:= @_root_.PySem.Obj.data_mapFields
abbrev vL:= @_root_.PySem.Obj.isFreed_of_fields
abbrev gv:= @_root_.List.Perm.append_left
abbrev gV:= @_root_.List.Perm.append_right
abbrev c6:= @_root_.PySem.boot_len
abbrev jh:= @_root_.PySem.mem_of_lookup
abbrev ji:= @_root_.List.all_eq_true
abbrev bZ:= @_root_.Bool.and_eq_true
abbrev bz:= @_root_.List.append_assoc
abbrev gW:= @_root_.List.append_nil
abbrev gX:= @_root_.beq_iff_eq
abbrev jj:= @_root_.bne_self_eq_false
abbrev jk:= @_root_.PyProof.Rows.boot_tuple
abbrev n7:= @_root_.PySem.builtinLookup_eq_fast
abbrev jX:= @_root_.PySem.call_meets
abbrev jl:= @_root_.PySem.F.called_set
abbrev gw:= @_root_.PySem.codeAny_builtin
abbrev n8:= @_root_.PySem.codeAny_mono
abbrev cz:= @_root_.congrArg
abbrev dg:= @_root_.decide_eq_false
abbrev lO:= @_root_.decide_eq_false_iff_not
abbrev dN:= @_root_.decide_eq_true
abbrev gZ:= @_root_.decide_eq_true_eq
abbrev lP:= @_root_.List.drop_drop
abbrev jY:= @_root_.List.drop_eq_getElem_cons
abbrev jm:= @_root_.List.drop_eq_nil_of_le
abbrev g8:= @_root_.List.drop_sublist
abbrev lQ:= @_root_.List.drop_zero
abbrev g_:= @_root_.LawfulBEq.eq_of_beq
abbrev fJ:= @_root_.Bool.false_eq_true
abbrev jn:= @_root_.List.find?_cons
abbrev rH:= @_root_.PySem.fits_of_scanBound
abbrev bw:= @_root_.PySem.Heap.get?_push_of_some
abbrev bK:= @_root_.PySem.Heap.get?_push_size
abbrev jo:= @_root_.PySem.Heap.get?_update_other
abbrev h_:= @_root_.PySem.Heap.get?_update_self
abbrev lR:= @_root_.List.getD_eq_getElem?_getD
abbrev ic:= @_root_.List.getElem?_append_left
abbrev jZ:= @_root_.List.getElem?_append_right
abbrev bS:= @_root_.List.getElem?_eq_getElem
abbrev rJ:= @_root_.Array.getElem?_eq_none
abbrev dP:= @_root_.List.getElem?_map
abbrev n9:= @_root_.List.getElem?_set_ne
abbrev n_:= @_root_.List.getElem?_set_self
abbrev ie:= @_root_.Array.getElem?_toList
abbrev cA:= @_root_.List.getElem_mem
abbrev lS:= @_root_.List.getElem_of_mem
abbrev dQ:= @_root_.if_false
abbrev av:= @_root_.if_neg
abbrev ao:= @_root_.if_pos
abbrev gx:= @_root_.if_true
abbrev fK:= @_root_.PySem.W.kia_one
abbrev jq:= @_root_.Nat.le_of_lt
abbrev aI:= @_root_.Nat.le_refl
abbrev cM:= @_root_.Nat.le_trans
abbrev b_:= @_root_.List.length_append
abbrev dZ:= @_root_.List.length_cons
abbrev f5:= @_root_.List.length_drop
abbrev bB:= @_root_.List.length_map
abbrev f6:= @_root_.List.length_take
abbrev bH:= @_root_.Array.length_toList
abbrev eZ:= @_root_.Nat.lt_irrefl
abbrev cB:= @_root_.Nat.lt_of_lt_of_le
abbrev fL:= @_root_.Nat.lt_or_ge
abbrev aQ:= @_root_.PySem.Heap.lt_size
abbrev fj:= @_root_.Nat.lt_succ_of_lt
abbrev iR:= @_root_.Nat.lt_succ_self
abbrev eB:= @_root_.List.map_cons
abbrev iS:= @_root_.List.map_map
abbrev bF:= @_root_.List.mem_append
abbrev j4:= @_root_.List.mem_append_left
abbrev fk:= @_root_.List.mem_append_right
abbrev aW:= @_root_.List.mem_cons
abbrev bE:= @_root_.List.mem_cons_of_mem
abbrev bJ:= @_root_.List.mem_cons_self
abbrev nO:= @_root_.List.mem_filterMap
abbrev b9:= @_root_.List.mem_map
abbrev lF:= @_root_.List.mem_map_of_mem
abbrev dD:= @_root_.List.mem_of_mem_drop
abbrev cZ:= @_root_.List.mem_of_mem_take
abbrev bV:= @_root_.List.mem_singleton
abbrev jQ:= @_root_.Nat.min_eq_left
abbrev je:= @_root_.Nat.ne_of_gt
abbrev bq:= @_root_.Nat.ne_of_lt
abbrev vD:= @_root_.ne_true_of_eq_false
abbrev jR:= @_root_.List.nil_append
abbrev nP:= @_root_.Bool.not_eq_true'
abbrev eW:= @_root_.List.not_mem_nil
abbrev nQ:= @_root_.of_decide_eq_true
abbrev eY:= @_root_.or_false
abbrev cG:= @_root_.List.pairwise_append
abbrev lG:= @_root_.List.pairwise_cons
abbrev lH:= @_root_.List.pairwise_iff_getElem
abbrev iO:= @_root_.List.perm_append_comm
abbrev nR:= @_root_.Array.perm_iff_toList_perm
abbrev q8:= @_root_.PySem.F.plainAttrs_list
abbrev jf:= @_root_.PySem.F.plainAttrs_str
abbrev gq:= @_root_.PySem.plainId_quiet
abbrev dc:= @_root_.Nat.pow_le_pow_right
abbrev jS:= @_root_.Nat.pow_succ
abbrev q9:= @_root_.List.reverse_append
abbrev lI:= @_root_.Array.size_append
abbrev cS:= @_root_.PySem.Heap.size_push
abbrev bY:= @_root_.List.size_toArray
abbrev ri:= @_root_.PySem.F.slot_str_split
abbrev dY:= @_root_.List.take_append_drop
abbrev fG:= @_root_.List.take_of_length_le
abbrev gu:= @_root_.List.take_sublist
abbrev ek:= @_root_.Array.toList_append
abbrev rj:= @_root_.Array.toList_extract
abbrev jT:= @_root_.Array.toList_push
abbrev rm:= @_root_.Array.toList_reverse
abbrev jU:= @_root_.PySem.typeIs_str
abbrev nS:= @_root_.PySem.typeLookup_type
abbrev nT:= @_root_.PySem.wpAny_Call_Name_kw
abbrev nU:= @_root_.PySem.wpAny_attempt
abbrev ah:= @_root_.PySem.wpAny_bind
abbrev nV:= @_root_.PySem.wpAny_callSpecial?_slot
abbrev iP:= @_root_.PySem.wpAny_call_entry
abbrev rz:= @_root_.PySem.wpAny_execs_nil
abbrev rA:= @_root_.PySem.wpAny_fieldsOf
abbrev fY:= @_root_.PySem.wpAny_holding
abbrev rB:= @_root_.PySem.wpAny_loadPart'
abbrev jV:= @_root_.PySem.wpAny_mono
abbrev eu:= @_root_.PySem.wpAny_newObj_type
abbrev jW:= @_root_.PySem.wpAny_passesOwn
abbrev aB:= @_root_.PySem.wpAny_pure
abbrev nW:= @_root_.PySem.wpAny_pyIter_list
abbrev gS:= @_root_.PySem.wpAny_rule
abbrev lJ:= @_root_.PySem.wpAny_seqItems
abbrev nX:= @_root_.PySem.wpAny_setEntries_of
abbrev lK:= @_root_.PySem.wpAny_setField
abbrev lM:= @_root_.PySem.wpAny_setState_of
abbrev rC:= @_root_.PySem.wpAny_standAt
abbrev jg:= @_root_.PySem.wpAny_truthy_bool
abbrev nZ:= @_root_.PySem.wpAny_tryCatch
abbrev lN:= @_root_.PySem.wpAny_typeOf
abbrev n5:= @_root_.PySem.wpAny_updateSeq
abbrev aC:= @_root_.PyProof.Rows.wpS_bind
abbrev ez:= @_root_.PyProof.Rows.wpS_forRange
abbrev gU:= @_root_.PyProof.Rows.wpS_get
abbrev fH:= @_root_.PyProof.Rows.wpS_modify
abbrev aE:= @_root_.PyProof.Rows.wpS_pure
abbrev c5:= @_root_.Nat.zero_le
section
open PySem
abbrev au:=Str->Option Value
abbrev aF:=Value->Shared->Prop
abbrev aO:=List (Addr×Obj)
end
section
open PySem PySem.Spec PyProof.Rows
namespace L2
abbrev Key:=Sum Int Str
def kU:Key->Value->Bool
 |.inl k,v=>Value.isInt k v
 |.inr x,v=>Value.isStrOf x v
def HM(w:World):Key->Int
 |.inl k=>hashInt k
 |.inr x=>hashStr w x
theorem iG:∀{k:Key} {v:Value},kU k v=true->(∃i t,k=Sum.inl i/\v=Value.int i t)\/(∃x t,k=Sum.inr x/\v=Value.str x t)
 |.inl i,v,h=>by
  obtain⟨t,e⟩:=Value.isInt_shape (k:=i) (v:=v) h;exact .inl ⟨i,t,rfl,e⟩
 |.inr x,v,h=>by
  obtain⟨t,e⟩:=Value.isStrOf_shape (x:=x) (v:=v) h;exact .inr ⟨x,t,rfl,e⟩
theorem HN(i:Int)(t:Tok):kU (.inl i) (.int i t)=true:=by simp[kU,Value.isInt]
theorem HP(x:Str)(t:Tok):kU (.inr x) (.str x t)=true:=by simp[kU,Value.isStrOf]
theorem HQ(a b:Int):decide ((Sum.inl a:Key)=Sum.inl b)=(a==b):=by
 by_cases e:a=b
 .subst e;simp
 .have h:¬(Sum.inl a:Key)=Sum.inl b:=λq=>e (Sum.inl.inj q)
  rw[dg h];exact(beq_eq_false_iff_ne.mpr e).symm
theorem HU(a b:Str):decide ((Sum.inr a:Key)=Sum.inr b)=decide (a=b):=by
 by_cases e:a=b
 .subst e;simp
 .have h:¬(Sum.inr a:Key)=Sum.inr b:=λq=>e (Sum.inr.inj q)
  rw[dg h,dg e]
theorem HR(a:Int)(b:Str):decide ((Sum.inl a:Key)=Sum.inr b)=false:=dg (λq=>nomatch q)
theorem HS(a:Str)(b:Int):decide ((Sum.inr a:Key)=Sum.inl b)=false:=dg (λq=>nomatch q)
def ee(prog:Program)(w:World):PySem.KeyKind prog w Key where
 is:=kU
 hash:=HM w
 inj:=λv a b ha hb=>by
  rcases iG ha with⟨i,t,rfl,rfl⟩|⟨x,t,rfl,rfl⟩
  .rcases iG hb with⟨j,u,rfl,e⟩|⟨y,u,rfl,e⟩
   .injection e with e1 _;rw[e1]
   .exact nomatch e
  .rcases iG hb with⟨j,u,rfl,e⟩|⟨y,u,rfl,e⟩
   .exact nomatch e
   .injection e with e1 _;rw[e1]
 byValue:=λk v h=>by
  rcases iG h with⟨i,t,rfl,rfl⟩|⟨x,t,rfl,rfl⟩<;>rfl
 pyHash:=λhv h=>by
  rcases iG hv with⟨i,t,rfl,rfl⟩|⟨x,t,rfl,rfl⟩
  .exact wpAny_pyHash_int h
  .exact wpAny_pyHash_str h
 eqBool:=λhu hv h=>by
  rcases iG hu with⟨i,t,rfl,rfl⟩|⟨x,t,rfl,rfl⟩
  .rcases iG hv with⟨j,u,rfl,rfl⟩|⟨y,u,rfl,rfl⟩
   .rw[HQ] at h;exact wpAny_eqBool_int h
   .rw[HR] at h;exact SeqAt.EqAt.int_str i t y u _ _ _ _ h
  .rcases iG hv with⟨j,u,rfl,rfl⟩|⟨y,u,rfl,rfl⟩
   .rw[HS] at h;exact SeqAt.EqAt.str_int x t j u _ _ _ _ h
   .rw[HU] at h;exact wpAny_eqBool_str h
 «strs»:=λk x t v h=>by
  rcases iG h with⟨i,u,rfl,e⟩|⟨y,u,rfl,e⟩
  .exact nomatch e
  .injection e with e1 _
   subst e1
   cases v<;>rfl
theorem IG(prog:Program)(w:World)(i:Int)(t:Tok):(ee prog w).is (.inl i) (.int i t)=true:=HN i t
theorem II(prog:Program)(w:World)(x:Str)(t:Tok):(ee prog w).is (.inr x) (.str x t)=true:=HP x t
inductive V where
 |aM|bl (b:Bool)|int (i:Int)|str (x:Str)|gg (b:Array UInt8)|kM (b:UInt64)|ref (a:Addr)|ty (n:String)
 deriving DecidableEq
def RelV:V->Value->Prop
 |.aM,u=>u=Value.none
 |.bl b,u=>u=Value.bool b
 |.int i,u=>∃t,u=Value.int i t
 |.str x,u=>∃t,u=Value.str x t
 |.gg b,u=>∃t,u=Value.bytes b t
 |.kM b,u=>∃t,u=Value.float b t
 |.ref a,u=>u=Value.ref a
 |.ty n,u=>u=Value.type n
abbrev Vals:List V->List Value->Prop:=Paired RelV
theorem Vals.length{xs:List V}{a:List Value}(r:Vals xs a):xs.length=a.length:=Paired.length r
theorem Vals.get:∀{xs:List V} {a:List Value} {i:Nat} {x:V},Vals xs a->xs[i]?=some x->∃u,a[i]?=some u/\RelV x u
 |_,_,_,_,.nil,e=>by simp at e
 |_,_,0,_,.cons r _,e=>by simp at e;subst e;exact⟨_,rfl,r⟩
 |_,_,i+1,x,.cons _ t,e=>by
  obtain⟨u,h1,h2⟩:=Vals.get (i:=i) (x:=x) t (by simpa using e);exact⟨u,by simpa using h1,h2⟩
theorem Vals.append:∀{xs ys:List V} {a ws:List Value},Vals xs a->Vals ys ws->Vals (xs++ys) (a++ws)
 |_,_,_,_,.nil,s=>s
 |_,_,_,_,.cons r t,s=>.cons r (Vals.append t s)
theorem Vals.take:∀{xs:List V} {a:List Value} (n:Nat),Vals xs a->Vals (xs.take n) (a.take n)
 |_,_,0,_=>.nil
 |_,_,_+1,.nil=>.nil
 |_,_,n+1,.cons r t=>.cons r (Vals.take n t)
theorem Vals.drop:∀{xs:List V} {a:List Value} (n:Nat),Vals xs a->Vals (xs.drop n) (a.drop n)
 |_,_,0,r=>r
 |_,_,_+1,.nil=>.nil
 |_,_,n+1,.cons _ t=>Vals.drop n t
def f_:Option V->Option Value->Prop
 |some v,some u=>RelV v u
 |none,none=>True
 |_,_=>False
def KV{κ:Type}:List (κ×V)->List (κ×Value)->Prop:=Paired λ(p:κ×V) (q:κ×Value)=>p.1=q.1/\RelV p.2 q.2
def kV:Key->V
 |.inl i=>.int i
 |.inr x=>.str x
def iW(h:Heap)(a:Addr)(items:Array Value):Prop:=∃n,h.get? a=some {cls:=.type "tuple",data:=.seq items n}
theorem iW.is{h:Heap}{a:Addr}{items:Array Value}(x:iW h a items):IsTup h a items:=let ⟨n,e⟩:=x;⟨_,e,rfl,n,rfl⟩
theorem iW.new(h:Heap)(items:Array Value):iW (h.push {cls:=.type "tuple",data:=.seq items}) h.objs.size items:=⟨0,bK _ rfl⟩
inductive HO where
 |lst (xs:List V)
 |tup (xs:List V)
 |dK (kvs:List (Key×V))|dT (kvs:List (List Key×V))
 |set (S:Int->Bool) (n:Nat)
 |ins (C dx:Addr) (fs:List (Str×V))
 |own (x:Addr)
 |xd (fs:List (Str×V))
 |met (f x:Addr)
 |qE (lo hi:Int)
 |b5 (o:Obj) (u:HO)
 |fV (ps:Array Value)
 |ext (φ:Heap->Prop)
abbrev Hp:=Addr->Option HO
def upd(H:Hp)(a:Addr)(o:HO):Hp:=λb=>if b=a then some o else H b
theorem fX{H:Hp}{a:Addr}{o:HO}:upd H a o a=some o:=by unfold upd;rw[ao rfl]
theorem bA{H:Hp}{a b:Addr}{o:HO}(h:b≠a):upd H a o b=H b:=by unfold upd;rw[av h]
theorem dJ{H:Hp}{a b:Addr}{o:HO}(h:H a=some o)(h':H b=none):a≠b:=by
 intro e;subst e;rw[h] at h';cases h'
section
variable(P:Program)(w:World)
def bT(H:Hp)(h:Heap)(a:Addr):HO->Prop
 | .lst xs=>xs.length<=sizeLine/\∃(its:List Value) (n:Nat),Vals xs its/\h.get? a=some {cls:= .type "list",data:= .seq its.toArray n}
 | .tup xs=>xs.length<=sizeLine/\∃its:List Value,Vals xs its/\iW h a its.toArray
 | .dK kvs=>kvs.length<=sizeLine/\(a==sysModules)=false/\∃vs,KV kvs vs/\h.DictOf (ee P w) a vs
 | .dT kvs=>kvs.length<=sizeLine/\(a==sysModules)=false/\∃xs:List (List Key×Addr×Value),
  Paired (λ(p:List Key×V) (q:List Key×Addr×Value)=>p.1=q.1/\H q.2.1=some (.tup (p.1.map kV))/\RelV p.2 q.2.2) kvs xs/\
  ∃o es ep,h.get? a=some o/\o.ExactDict/\o.data= .dict es ep/\es.toList=xs.map (entryOfKey (tupleKind (ee P w)))/\(xs.map (·.1)).Nodup
 | .set S n=>h.SetOf (intKind P w) a S n
 | .ins C dx fs=>H dx=some (.own a)/\fs.length<=1000/\dx≠a/\h.get? a=some (instObj C dx)/\
  ∃mA,h.Ns1 dx mA/\(∀f,f_ (fs.lookup f) (mA f))/\PySem.Within mA (fs.map (·.1))
 | .own _=>∃o,h.get? a=some o
 | .xd fs=>∃mA,h.Ns1 a mA/\∀f,f_ (fs.lookup f) (mA f)
 | .qE lo hi=>∃t u v,h.get? a=some {cls:= .type "range",data:= .fields #[.int lo t,.int hi u,.int 1 v]}
 | .b5 o u=>h.get? a=some o/\bT H h a u
 | .fV ps=>h.get? a=some {cls:= .none,data:= .fields ps}
 | .met f x=>h.get? a=some (methodObj (.ref f) (.ref x))
 | .ext φ=>φ h/\(∃o,h.get? a=some o)/\∀h1 h2:Heap,φ h1->(∀o,h1.get? a=some o->h2.get? a=some o)->φ h2
def bM(H:Hp)(h:Heap):Prop:=∀a o,H a=some o->bT P w H h a o
end
section
variable{P:Program}{w:World}{H H':Hp}{h h':Heap}{a:Addr}{o:HO}
theorem bT.lt(x:bT P w H h a o):a<h.objs.size:=by
 cases o with
 |lst xs=>obtain⟨_,_,_,_,e⟩:=x;exact aQ e
 |tup xs=>obtain⟨_,_,_,p⟩:=x;exact p.is.lt
 |dK kvs=>obtain⟨_,_,_,_,o,_,_,e,_⟩:=x;exact aQ e
 |dT kvs=>obtain⟨_,_,_,_,o,_,_,e,_⟩:=x;exact aQ e
 |set S n=>obtain⟨o,_,_,_,e,_⟩:=x;exact aQ e
 |ins C dx fs=>obtain⟨_,_,_,e,_⟩:=x;exact aQ e
 |own y=>obtain⟨_,e⟩:=x;exact aQ e
 |xd fs=>obtain⟨_,⟨_,_,_,e,_⟩,_⟩:=x;exact aQ e
 |qE lo hi=>obtain⟨_,_,_,e⟩:=x;exact aQ e
 |b5 b u=>obtain⟨e,_⟩:=x;exact aQ e
 |fV ps=>exact aQ (show h.get? a=some _ from x)
 |met f y=>exact aQ (show h.get? a=some _ from x)
 |ext c=>obtain⟨_,⟨_,e⟩,_⟩:=x;exact aQ e
theorem Paired.zI{α β:Type}{F G:α->β->Prop}:∀{c:List α} {d:List β},Paired F c d->(∀a b,F a b->G a b)->Paired G c d
 |_,_,.nil,_=>.nil
 |_,_,.cons r t,f=>.cons (f _ _ r) (Paired.zI t f)
theorem bT.stay(x:bT P w H h a o)(k:∀b u,(b=a\/H b=some (.own a))->h.get? b=some u->h'.get? b=some u)
  (l:∀b,H b=some (.own a)->H' b=some (.own a))(m:∀b xs,H b=some (.tup xs)->H' b=some (.tup xs)):bT P w H' h' a o:=by
 induction o with
 |lst xs=>obtain⟨z,its,n,r,e⟩:=x;exact⟨z,its,n,r,k _ _ (.inl rfl) e⟩
 |tup xs=>obtain⟨z,its,r,n,e⟩:=x;exact⟨z,its,r,n,k _ _ (.inl rfl) e⟩
 |dK kvs=>obtain⟨z,y,s,r,g,es,ep,e,c⟩:=x;exact⟨z,y,s,r,g,es,ep,k _ _ (.inl rfl) e,c⟩
 |dT kvs=>
  obtain⟨z,y,xs,r,g,es,ep,e,c⟩:=x;exact⟨z,y,xs,Paired.zI r λp q z=>⟨z.1,m _ _ z.2.1,z.2.2⟩,g,es,ep,k _ _ (.inl rfl) e,c⟩
 |set S n=>obtain⟨g,es,ep,t,e,c⟩:=x;exact⟨g,es,ep,t,k _ _ (.inl rfl) e,c⟩
 |ins C dx fs=>
  obtain⟨d,z,ne,e,i,⟨j,es,ep,A,c⟩,r⟩:=x;exact⟨l _ d,z,ne,k _ _ (.inl rfl) e,i,⟨j,es,ep,k _ _ (.inr d) A,c⟩,r⟩
 |own y=>obtain⟨g,e⟩:=x;exact⟨g,k _ _ (.inl rfl) e⟩
 |xd fs=>obtain⟨i,⟨j,es,ep,e,c⟩,r⟩:=x;exact⟨i,⟨j,es,ep,k _ _ (.inl rfl) e,c⟩,r⟩
 |qE lo hi=>obtain⟨t,u,v,e⟩:=x;exact⟨t,u,v,k _ _ (.inl rfl) e⟩
 |b5 g u B=>obtain⟨e,q⟩:=x;exact⟨k _ _ (.inl rfl) e,B q⟩
 |fV ps=>
  have e:h.get? a=some {cls:=.none,data:=.fields ps}:=x;show h'.get? a=some {cls:=.none,data:=.fields ps};exact k a _ (.inl rfl) e
 |met f y=>
  have e:h.get? a=some (methodObj (.ref f) (.ref y)):=x;show h'.get? a=some (methodObj (.ref f) (.ref y));exact k a _ (.inl rfl) e
 |ext D=>obtain⟨p,⟨o,e⟩,st⟩:=x;exact⟨st _ _ p λo q=>k _ _ (.inl rfl) q,⟨o,k _ _ (.inl rfl) e⟩,st⟩
theorem bM.lt(x:bM P w H h)(e:H a=some o):a<h.objs.size:=(x a o e).lt
theorem bM.fresh(x:bM P w H h)(e:h.objs.size<=a):H a=none:=by
 cases q:H a with
 |none=>rfl
 |some u=>exact absurd (cB (x.lt q) e) (eZ _)
theorem bM.kept(x:bM P w H h)(k:∀b u,h.get? b=some u->h'.get? b=some u):bM P w H h':=λa o e=>
 (x a o e).stay (λb u _ q=>k b u q) (λ_ q=>q) λ_ _ q=>q
theorem bM.laid(x:bM P w H h)(k:∀b u,h.get? b=some u->h'.get? b=some u)(f:h.objs.size<=a)(new:bT P w (upd H a o) h' a o):bM P w (upd H a o) h':=λb u e=>by
 have hn:=x.fresh f;by_cases d:b=a
 .subst d;rw[fX] at e;cases e;exact new
 .rw[bA d] at e
  exact(x b u e).stay (λc v _ q=>k c v q) (λc q=>by rw[bA (dJ q hn)];exact q) λc xs q=>by rw[bA (dJ q hn)];exact q
end
def Rd(H:Hp)(a:Addr)(u:HO):Prop:=H a=some u\/∃o,H a=some (.b5 o u)
theorem Rd.ok{P:Program}{w:World}{H:Hp}{h:Heap}{a:Addr}{u:HO}(r:Rd H a u)(x:bM P w H h):bT P w H h a u:=by
 rcases r with r|⟨o,r⟩
 .exact x a u r
 .obtain⟨_,q⟩:=x a _ r
  exact q
def ou:Option HO->Prop
 |some (.lst _)=>True
 |some (.dK _)=>True
 |some (.dT _)=>True
 |some (.set _ _)=>True
 |some (.ins _ _ _)=>True
 |some (.ext _)=>True
 |_=>False
section
variable{P:Program}{w:World}{H:Hp}{h h':Heap}{x e:Addr}{o':HO}
theorem bM.write(ok:bM P w H h)(g:ou (H x))(l:e=x\/H e=some (.own x))(k:∀b u,b≠e->h.get? b=some u->h'.get? b=some u)(j:∃u,h'.get? e=some u)
  (new:bT P w (upd H x o') h' x o'):bM P w (upd H x o') h':=λb u q=>by
 have d:∀c y,H c=some (.own y)->c≠x:=λc y r z=>by subst z;rw[r] at g;exact g
 have f:∀c xs,H c=some (.tup xs)->c≠x:=λc xs r z=>by subst z;rw[r] at g;exact g
 by_cases i:b=x
 .subst i;rw[fX] at q;cases q;exact new
 .rw[bA i] at q
  by_cases a:b=e
  .have m:H b=some (.own x):=by
    rcases l with z|z
    .exact absurd (a.trans z) i
    .rw[a];exact z
   rw[q] at m;cases m;obtain⟨v,n⟩:=j;exact⟨v,by rw[a];exact n⟩
  .refine(ok b u q).stay (λc v hc r=>k c v ?_ r) (λc r=>by rw[bA (d c b r)];exact r) λc xs r=>by rw[bA (f c xs r)];exact r
   rcases hc with rfl|hc
   .exact a
   .rintro rfl
    rcases l with z|z
    .exact d c b hc z
    .rw[hc] at z;cases z;exact i rfl
end
structure Un(fs ex:List Addr)(H H':Hp)(h h':Heap):Prop where
 keep:∀b o,h.get? b=some o->H b=none->b∉fs->b∉ex->h'.get? b=some o
 slot:∀b o,h.get? b=some o->H b=none->b∈fs->b∉ex->∃sl,h'.get? b=some {o with slots:=sl}
 free:∀b o,h.get? b=some o->H b=none->b∉ex->H' b=none
 there:∀b o,h.get? b=some o->b∉ex->∃o',h'.get? b=some o'
 tups:∀b xs,H b=some (.tup xs)->H' b=some (.tup xs)
 fc:∀b o u,H b=some (.b5 o u)->H' b=some (.b5 o u)
 fF:∀b ps,H b=some (.fV ps)->∃more,H' b=some (.fV (ps++more))
section
variable{fs fs' ex ex':List Addr}{H H1 H2:Hp}{h h1 h2 h':Heap}{a x e:Addr}{o:HO}
theorem Un.any(u:Un fs ex H H1 h h1){b:Addr}{a:Obj}(q:h.get? b=some a)(n:H b=none)(c:b∉ex):∃e,h1.get? b=some {a with slots:=e}:=by
 by_cases d:b∈fs
 .exact u.slot b a q n d c
 .exact⟨a.slots,u.keep b a q n d c⟩
theorem Un.kept(k:∀b u,h.get? b=some u->h'.get? b=some u):Un fs ex H H h h':=
 ⟨λb a q _ _ _=>k b a q,λb a q _ _ _=>⟨a.slots,k b a q⟩,λ_ _ _ n _=>n,λb a q _=>⟨a,k b a q⟩,λ_ _ q=>q,λ_ _ _ q=>q,λ_ ps q=>⟨#[],by rw[q];simp⟩⟩
theorem Un.refl:Un fs ex H H h h:=Un.kept λ_ _ q=>q
theorem Un.laid(k:∀b u,h.get? b=some u->h'.get? b=some u)(c:h.objs.size<=a)(hn:H a=none):Un fs ex H (upd H a o) h h' where
 keep:=λb u q _ _ _=>k b u q
 slot:=λb u q _ _ _=>⟨u.slots,k b u q⟩
 free:=λb u q n _=>by rw[bA (bq (cB (aQ q) c))];exact n
 there:=λb u q _=>⟨u,k b u q⟩
 tups:=λb xs q=>by rw[bA (dJ q hn)];exact q
 fc:=λb u xs q=>by rw[bA (dJ q hn)];exact q
 fF:=λb ps q=>⟨#[],by rw[bA (dJ q hn),q];simp⟩
theorem Un.write(c:ou (H x))(j:e=x\/H e=some (.own x))(k:∀b u,b≠e->h.get? b=some u->h'.get? b=some u)(d:∃u,h'.get? e=some u):Un fs ex H (upd H x o) h h':=by
 have g:∀b,H b=none->b≠x:=λb n z=>by subst z;rw[n] at c;exact c
 have i:∀b,H b=none->b≠e:=λb n z=>by
  subst z;rcases j with r|r
  .exact g b n r
  .rw[n] at r;cases r
 have f:∀b u,H b=some u->¬ou (some u)->b≠x:=λb u q nm z=>by subst z;rw[q] at c;exact nm c
 refine⟨λb u q n _ _=>k b u (i b n) q,λb u q n _ _=>⟨u.slots,k b u (i b n) q⟩,λb u q n _=>by rw[bA (g b n)];exact n,λb u q _=>?_,
  λb xs q=>by rw[bA (f b _ q λz=>z)];exact q,λb u xs q=>by rw[bA (f b _ q λz=>z)];exact q,λb ps q=>⟨#[],by rw[bA (f b _ q λz=>z),q];simp⟩⟩
 by_cases a:b=e
 .subst a;exact d
 .exact⟨u,k b u a q⟩
end
def qR(h:Heap)(H:Hp):List Addr:=(range h.objs.size).filter λa=>(H a).isSome
def iE(h:Heap)(H:Hp):Heap:=hideAll h (qR h H)
theorem GY(h:Heap)(H:Hp):(iE h H).objs.size=h.objs.size:=PySem.W.hideAll_size _ _
theorem GX{h:Heap}{H:Hp}{b:Addr}{o:Obj}(e:h.get? b=some o)(n:H b=none):(iE h H).get? b=some o:=
 hideAll_get _ e λa=>by
  have q:(H b).isSome=true:=(List.mem_filter.mp a).2;rw[n] at q;simp at q
theorem Jh{h:Heap}{H:Hp}{b:Addr}{o:Obj}(e:(iE h H).get? b=some o):h.get? b=some o/\H b=none:=by
 have a:h.get? b=some o:=of_hideAll (qR h H) e;refine⟨a,?_⟩;cases q:H b with
 |none=>rfl
 |some x=>
  have c:b∈qR h H:=List.mem_filter.mpr ⟨mem_range.mpr (aQ a),by simp[q]⟩;have z:(iE h H).get? b=none:=PySem.W.hideAll_none (qR h H) c;rw[z] at e;cases e
structure Mod(K:Frag)(mg:au)(base:Heap):Prop where
 pP:K.In base
 glob:base.Ns mainGlobals mg
 blt:∃mb,base.Ns builtinsNs mb/\∀x:Str,x≠"__name__"->mb x=bootBuiltins x
 nolimit:base.NoLimit
structure Cx where
 prog:Program
 w:World
 K:Frag
 mg:au
 base:Heap
 A:Around
 N:List Str
 s₀:Shared
 H₀:Hp
 env:Env
 outer:List Env
 stack:List Env
 ex:List Addr
 fn:Str->Bool
 calm:Bool
 pn:aO
 xe:aF
def frs(l:List Env):List Addr:=l.filterMap (·.frame)
abbrev Cx.fs(X:Cx):List Addr:=frs X.outer
def kh(sc:Scope)(x:Str):Prop:=sc.names.lookup x=some .local\/sc.names.lookup x=some .cell\/sc.names.lookup x=some .free
def Loc(sc:Scope)(x:Str):Prop:=sc.names.lookup x=some .local\/sc.names.lookup x=some .cell
def Look(env:Env)(h:Heap)(m:au)(x:Str)(u:Value):Prop:=
 (env.kindOf x=some .local/\m x=some u)\/((env.kindOf x=some .cell\/env.kindOf x=some .free)/\∃c,env.cells.lookup x=some c/\h.IsCell c (some u))
structure Cx.Ok(X:Cx):Prop where
 mod:Mod X.K X.mg X.base
 kind:X.env.scope.kind= .function
 glob:X.env.globals=mainGlobals
 blt:X.env.builtins=builtinsNs
 above:X.s₀.heap.objs.size<=X.env.locals
 inj:∀x y c,X.env.cells.lookup x=some c->X.env.cells.lookup y=some c->x=y
 has:∀x,(X.env.kindOf x=some .cell\/X.env.kindOf x=some .free)->∃c,X.env.cells.lookup x=some c
 oU:∀x c,X.fn x=true->X.env.cells.lookup x=some c->X.s₀.heap.objs.size<=c
 hd:X.calm=true->X.A.handled=none
 frames:X.A.frames=some X.stack
 stk:X.stack=X.outer\/(X.stack=X.env::X.outer/\X.env.frame=some X.env.locals)
 FF:∀b∈X.ex,b≠X.env.locals/\∀x c,X.env.cells.lookup x=some c->c≠b
 bs:∀b o,X.base.get? b=some o->X.s₀.heap.get? b=some o/\X.H₀ b=none
 jv:X.base.objs.size<=X.s₀.heap.objs.size
 p8:∀b o,X.base.get? b=some o->b∉X.ex
 s9:∀b∈X.ex,b∉X.fs
 gI:X.s₀.heap.FunFrames X.base X.outer
 kN:∀b∈X.fs,X.H₀ b=none
structure Inv(X:Cx)(pins:aO)(σ:List (Option V))(H:Hp)(s:Shared):Prop where
 ok:X.Ok
 os:s.os=X.s₀.os
 bare:AllBare s.gens
 base:Un X.fs X.ex X.H₀ H X.s₀.heap s.heap
 loc:∃m,s.heap.Ns X.env.locals m/\∀(i:Nat) (x:Str) (v:V),X.N[i]? =some x->σ[i]? =some (some v)->kh X.env.scope x->∃u,RelV v u/\Look X.env s.heap m x u
 cell:∀x c,X.env.cells.lookup x=some c->∃v,s.heap.IsCell c v
 free:H X.env.locals=none
 iD:∀x c,X.env.cells.lookup x=some c->H c=none
 pin:∀p∈X.pn++pins,s.heap.get? p.1=some p.2/\H p.1=none/\p.1≠X.env.locals/\p.1∉X.fs/\∀v,p.2.data≠ .cell v
 hok:bM X.prog X.w H s.heap
 len:σ.length=X.N.length
section
variable{X:Cx}{pins:aO}{σ:List (Option V)}{H H':Hp}{s:Shared}{h':Heap}
theorem Cx.Ok.jH(ok:X.Ok){b:Addr}{o:Obj}(e:X.base.get? b=some o):b∉X.fs:=λa=>by
 have:=(ok.gI.mem a).1;rw[e] at this;cases this
theorem Inv.bs(I:Inv X pins σ H s):∀b o,X.base.get? b=some o->s.heap.get? b=some o/\H b=none:=λb o e=>
 ⟨I.base.keep b o (I.ok.bs b o e).1 (I.ok.bs b o e).2 (I.ok.jH e) (I.ok.p8 b o e),I.base.free b o (I.ok.bs b o e).1 (I.ok.bs b o e).2 (I.ok.p8 b o e)⟩
theorem Inv.bk(I:Inv X pins σ H s):∀b o,X.base.get? b=some o->s.heap.get? b=some o:=λb o e=>(I.bs b o e).1
theorem Inv.mod(I:Inv X pins σ H s):Mod X.K X.mg X.base:=I.ok.mod
theorem Inv.dz(I:Inv X pins σ H s):X.K.In s.heap:=I.ok.mod.pP.keeps I.bk
theorem Inv.lt(I:Inv X pins σ H s):X.env.locals<s.heap.objs.size:=let ⟨_,hn,_⟩:=I.loc;hn.lt
theorem Inv.sz(I:Inv X pins σ H s):X.s₀.heap.objs.size<=s.heap.objs.size:=cM I.ok.above (jq I.lt)
theorem Inv.Ja(I:Inv X pins σ H s){a:Addr}(h:s.heap.objs.size<=a):a∉X.fs:=λb=>by
 obtain⟨_,o,c,_⟩:=I.ok.gI.mem b;exact absurd (cB (aQ c) (cM I.sz h)) (eZ _)
theorem Inv.jw(I:Inv X pins σ H s):∀x c,X.env.cells.lookup x=some c->c≠X.env.locals:=λx c e z=>by
 obtain⟨v,o,d,hd⟩:=I.cell x c e;obtain⟨m,⟨o',es,ep,a,b,_⟩,_⟩:=I.loc;rw[z,a] at d;cases d;rw[b] at hd;cases hd
theorem Inv.gI(I:Inv X pins σ H s):s.heap.FunFrames X.base X.outer:=by
 have all:∀(l:List Env),(∀b∈frs l,b∈X.fs)->X.s₀.heap.FunFrames X.base l->s.heap.FunFrames X.base l:=by
  intro l;induction l with
  |nil=>intro _ _;trivial
  |cons env r g=>
   intro f h;obtain⟨hk,⟨L,o,a,hn,i,hd⟩,j⟩:=h;have c:L∈X.fs:=f L (by unfold frs;rw[vE,a];exact bJ);obtain⟨k,e⟩:=I.base.slot L o i (I.ok.kN L c) c λz=>I.ok.s9 L z c;exact⟨hk,⟨L,_,a,hn,e,hd⟩,g (λb d=>f b (by unfold frs;rw[vE,a];exact bE _ d)) j⟩
 exact all X.outer (λ_ d=>d) I.ok.gI
theorem Inv.stack(I:Inv X pins σ H s):s.heap.FunFrames X.base X.stack:=by
 rcases I.ok.stk with e|⟨e,a⟩
 .rw[e];exact I.gI
 .rw[e]
  obtain⟨m,hn,_⟩:=I.loc;refine .cons (by rw[I.ok.kind];decide) a hn ?_ I.gI;exact Heap.get?_none_of_le (cM I.ok.jv I.ok.above)
theorem Inv.lz(I:Inv X pins σ H s):∀b∈frs X.stack,b∈X.env.locals::X.fs:=λb a=>by
 rcases I.ok.stk with e|⟨e,c⟩
 .rw[e] at a;exact bE _ a
 .rw[e] at a
  unfold frs at a;rw[vE,c] at a;exact a
theorem Inv.u_(I:Inv X pins σ H s):∀b∈frs X.stack,H b=none:=λb hb=>by
 rcases aW.mp (I.lz b hb) with e|hb
 .rw[e];exact I.free
 .obtain⟨_,o,a,_⟩:=I.ok.gI.mem hb
  exact I.base.free b o a (I.ok.kN b hb) λz=>I.ok.s9 b z hb
theorem Inv.step{g':Array GenState}{t':Nat}{d':Drawn}{ch:List Addr}(I:Inv X pins σ H s)
  (f:∀b∈ch,(b∈X.ex\/X.s₀.heap.objs.size<=b)/\b≠X.env.locals/\(∀x c,X.env.cells.lookup x=some c->c≠b)/\∀p∈X.pn++pins,p.1≠b)
  (keep:∀b o,b≠X.env.locals->b∉X.fs->b∉ch->s.heap.get? b=some o->H b=none->h'.get? b=some o)
  (slot:∀b o,b≠X.env.locals->b∈X.fs->b∉ch->s.heap.get? b=some o->H b=none->∃D,h'.get? b=some {o with slots:=D})(free:∀b o,b∉ch->s.heap.get? b=some o->H b=none->H' b=none)
  (there:∀b o,b∉ch->s.heap.get? b=some o->∃o',h'.get? b=some o')
  (tups:∀b xs,H b=some (.tup xs)->H' b=some (.tup xs))(fc:∀b o u,H b=some (.b5 o u)->H' b=some (.b5 o u))(fF:∀b ps,H b=some (.fV ps)->∃A,H' b=some (.fV (ps++A)))
  (ns:∀m,s.heap.Ns X.env.locals m->h'.Ns X.env.locals m)(hok:bM X.prog X.w H' h')(J:AllBare g'):
  Inv X pins σ H' {s with heap:=h',gens:=g',drawn:=d',toks:=t'}:=by
 have B:∀b o,X.s₀.heap.get? b=some o->b≠X.env.locals:=λb o e=>bq (cB (aQ e) I.ok.above)
 have h:∀b o,X.s₀.heap.get? b=some o->b∉X.ex->b∉ch:=λb o e a t=>by
  rcases (f b t).1 with z|z
  .exact a z
  .exact absurd (cB (aQ e) z) (eZ _)
 have cellK:∀x c,X.env.cells.lookup x=some c->∀v,s.heap.IsCell c v->h'.IsCell c v:=λx c e v ⟨o,y,hd⟩=>by
  have g:c∉ch:=λz=>(f c z).2.2.1 x c e rfl
  by_cases hc:c∈X.fs
  .obtain⟨D,q⟩:=slot c o (I.jw x c e) hc g y (I.iD x c e)
   exact⟨_,q,hd⟩
  .exact⟨o,keep c o (I.jw x c e) hc g y (I.iD x c e),hd⟩
 refine⟨I.ok,I.os,J,⟨λb o e n t a=> ?_,λb o e n t a=> ?_,λb o e n a=> ?_,λb o e a=> ?_,λb xs e=>tups b xs (I.base.tups b xs e),λb o xs e=>fc b o xs (I.base.fc b o xs e),λb ps e=> ?_⟩,?_,λx c e=> ?_,?_,λx c e=> ?_,λp F=> ?_,hok,I.len⟩
 .exact keep b o (B b o e) t (h b o e a) (I.base.keep b o e n t a) (I.base.free b o e n a)
 .obtain⟨D,j⟩:=I.base.slot b o e n t a
  obtain⟨E,C⟩:=slot b _ (B b o e) t (h b o e a) j (I.base.free b o e n a)
  exact⟨E,C⟩
 .obtain⟨o',j⟩:=I.base.there b o e a
  exact free b o' (h b o e a) j (I.base.free b o e n a)
 .obtain⟨o',j⟩:=I.base.there b o e a
  exact there b o' (h b o e a) j
 .obtain⟨K,j⟩:=I.base.fF b ps e
  obtain⟨L,C⟩:=fF b _ j
  exact⟨K++L,by rw[C,Array.append_assoc]⟩
 .obtain⟨m,hn,M⟩:=I.loc
  refine⟨m,ns m hn,λi x v j C N=> ?_⟩
  obtain⟨u,r,l⟩:=M i x v j C N
  refine⟨u,r,?_⟩
  rcases l with l|⟨k,c,e,z⟩
  .exact .inl l
  .exact .inr ⟨k,c,e,cellK x c e _ z⟩
 .obtain⟨v,z⟩:=I.cell x c e
  exact⟨v,cellK x c e v z⟩
 .obtain⟨m,⟨o,_,_,y,_⟩,_⟩:=I.loc
  exact free _ o (λz=>(f _ z).2.1 rfl) y I.free
 .obtain⟨v,o,y,hd⟩:=I.cell x c e
  exact free c o (λz=>(f c z).2.2.1 x c e rfl) y (I.iD x c e)
 .obtain⟨e,n,ne,G,d⟩:=I.pin p F
  have g:p.1∉ch:=λz=>(f p.1 z).2.2.2 p F rfl
  exact⟨keep p.1 p.2 ne G g e n,free p.1 p.2 g e n,ne,G,d⟩
theorem Inv.un{t':Nat}(I:Inv X pins σ H s)(u:Un X.fs [] H H' s.heap h')(hok:bM X.prog X.w H' h'):Inv X pins σ H' {s with heap:=h',toks:=t'}:=by
 obtain⟨m,⟨o,es,ep,g,r⟩,_⟩:=id I.loc;obtain⟨j,h⟩:=u.any g I.free (by simp);exact I.step (g':=s.gens) (d':=s.drawn) (ch:=[]) (λ_ z=>nomatch z) (λb o _ c _ e n=>u.keep b o e n c (by simp)) (λb o _ c _ e n=>u.slot b o e n c (by simp)) (λb o _ e n=>u.free b o e n (by simp)) (λb o _ e=>u.there b o e (by simp)) u.tups u.fc u.fF (λk i=>by
  obtain⟨o',d,f,a,r'⟩:=i;rw[g] at a;cases a;exact⟨_,d,f,h,r'⟩) hok I.bare
theorem Inv.call{g':Array GenState}{t':Nat}{d':Drawn}{ch:List Addr}(I:Inv X pins σ H s)(u:Un (frs X.stack) ch H H' s.heap h')(hok:bM X.prog X.w H' h')(j:AllBare g')
  (a:∀b∈ch,(b∈X.ex\/X.s₀.heap.objs.size<=b)/\b≠X.env.locals/\(∀x c,X.env.cells.lookup x=some c->c≠b)/\∀p∈X.pn++pins,p.1≠b):
  Inv X pins σ H' {s with heap:=h',gens:=g',drawn:=d',toks:=t'}:=by
 obtain⟨m,⟨o,es,ep,i,r⟩,_⟩:=id I.loc;obtain⟨q,f⟩:=u.any i I.free λz=>(a _ z).2.1 rfl;exact I.step (ch:=ch) a (λb o f k hc e n=>u.keep b o e n (λz=>(aW.mp (I.lz b z)).elim f k) hc) (λb o _ _ hc e n=>u.any e n hc) (λb o hc e n=>u.free b o e n hc) (λb o hc e=>u.there b o e hc) u.tups u.fc u.fF (λt l=>by
  obtain⟨o',g,h,d,r'⟩:=l;rw[i] at d;cases d;exact⟨_,g,h,f,r'⟩) hok j
theorem Inv.turned{t':Nat}{it:Addr}(I:Inv X pins σ H s)(k:∀b o,b≠it->s.heap.get? b=some o->h'.get? b=some o)(hn:H it=none)(d:it≠X.env.locals)
  (h1:it∈X.ex\/X.s₀.heap.objs.size<=it)(h2:∀x c,X.env.cells.lookup x=some c->c≠it)(h3:∀p∈X.pn++pins,p.1≠it):Inv X pins σ H {s with heap:=h',toks:=t'}:=by
 have a:∀b u,H b=some u->b≠it:=λb u e z=>by rw[z,hn] at e;cases e
 refine I.step (g':=s.gens) (d':=s.drawn) (ch:=[it]) (λb f=>?_) (λb o _ _ hc e _=>k b o (λz=>hc (by simp[z])) e) (λb o _ _ hc e _=>⟨o.slots,k b o (λz=>hc (by simp[z])) e⟩) (λ_ _ _ _ n=>n)
  (λb o hc e=>⟨o,k b o (λz=>hc (by simp[z])) e⟩) (λ_ _ e=>e) (λ_ _ _ e=>e) (λb ps e=>⟨#[],by rw[e];simp⟩) (λm g=>?_) (λb u e=>?_) I.bare
 .have e:b=it:=by simpa using f
  subst e;exact⟨h1,d,h2,h3⟩
 .obtain⟨o,es,ep,h,r⟩:=g
  exact⟨o,es,ep,k _ o (Ne.symm d) h,r⟩
 .refine(I.hok b u e).stay (λc v hc q=>k c v ?_ q) (λ_ q=>q) λ_ _ q=>q
  rcases hc with z|z
  .rw[z];exact a b u e
  .exact a c _ z
theorem Inv.tok(I:Inv X pins σ H s)(t:Nat):Inv X pins σ H {s with toks:=t}:=I.un (h':=s.heap) (t':=t) Un.refl I.hok
theorem Inv.kept{t':Nat}(I:Inv X pins σ H s)(k:∀b u,s.heap.get? b=some u->h'.get? b=some u):Inv X pins σ H {s with heap:=h',toks:=t'}:=I.un (Un.kept k) (I.hok.kept k)
theorem Inv.laid{a:Addr}{o:HO}{t':Nat}(I:Inv X pins σ H s)(k:∀b u,s.heap.get? b=some u->h'.get? b=some u)(c:s.heap.objs.size<=a)(new:bT X.prog X.w (upd H a o) h' a o):
 Inv X pins σ (upd H a o) {s with heap:=h',toks:=t'}:=I.un (Un.laid k c (I.hok.fresh c)) (I.hok.laid k c new)
theorem Inv.write{x e:Addr}{o:HO}{t':Nat}(I:Inv X pins σ H s)(c:ou (H x))(d:e=x\/H e=some (.own x))(k:∀b u,b≠e->s.heap.get? b=some u->h'.get? b=some u)(a:∃u,h'.get? e=some u)
 (new:bT X.prog X.w (upd H x o) h' x o):Inv X pins σ (upd H x o) {s with heap:=h',toks:=t'}:=I.un (Un.write c d k a) (I.hok.write c d k a new)
theorem Inv.weak{σ':List (Option V)}(I:Inv X pins σ H s)(b:σ'.length=σ.length)(w:∀(i:Nat) v,σ'[i]?=some (some v)->σ[i]?=some (some v)):Inv X pins σ' H s:=
 ⟨I.ok,I.os,I.bare,I.base,let ⟨m,hn,a⟩:=I.loc;⟨m,hn,λi x v c d e=>a i x v c (w i v d) e⟩,I.cell,I.free,I.iD,I.pin,I.hok,b.trans I.len⟩
theorem Inv.Ae{a:aO}(I:Inv X pins σ H s)(h:∀p∈a,s.heap.get? p.1=some p.2/\H p.1=none/\p.1≠X.env.locals/\p.1∉X.fs/\∀v,p.2.data≠ .cell v):Inv X a σ H s:=
 ⟨I.ok,I.os,I.bare,I.base,I.loc,I.cell,I.free,I.iD,λp b=>(bF.mp b).elim (λz=>I.pin p (j4 _ z)) (h p),I.hok,I.len⟩
theorem zT{N:List Str}(c:N.Nodup){i j:Nat}{x:Str}(a:N[i]?=some x)(b:N[j]?=some x):i=j:=by
 obtain⟨h1,d⟩:=cT.mp a;obtain⟨h2,e⟩:=cT.mp b;exact(List.getElem_inj c).mp (d.trans e.symm)
theorem B3 {M : Model} {A : Around} {E : aF} {i : Nat} {x : Str} {v : V} {u : Value} {Q : Unit → Shared → Prop} (I : Inv X pins σ H s) (hN : X.N.Nodup) (hi : X.N[i]? = some x) (l : Loc X.env.scope x) (r : RelV v u)
    (h : ∀ s', Inv X pins (σ.set i (some v)) H s' → (∃ a, SameBut a s.heap s'.heap ∧ (a = X.env.locals ∨ X.env.cells.lookup x = some a)) → Q () s') (hf : X.fn x = true ∨ X.env.scope.names.lookup x = some .local := by first | exact .inl rfl | exact .inr rfl | assumption) : wpAny M A (storeName X.env x u) Q E s := by
  obtain ⟨m, hn, hl⟩ := id I.loc
  have J : (X.env.scope.kind == .class || (X.env.scope.kind == .module && X.env.locals != X.env.globals)) = false := by rw [I.ok.kind]; rfl
  have C : i < σ.length := by rw [I.len]; exact (cT.mp hi).1
  have jw := I.jw
  have tracked : ∀ {a : Addr} {h' : Heap}, (∃ o, s.heap.get? a = some o ∧ H a = none) → SameBut a s.heap h' → bM X.prog X.w H h' := fun {a h'} ha f b ob e => by
    obtain ⟨_, _, t⟩ := ha
    refine (I.hok b ob e).stay (fun c R hc q => (f.2 c ?_).trans q) (fun _ q => q) fun _ _ q => q
    rintro rfl
    rcases hc with rfl | hc
    · rw [t] at e; cases e
    · rw [t] at hc; cases hc
  rcases l with hk | hk
  · refine wpAny_storeName_local hk hn (fun h' S f => ?_) J
    obtain ⟨oL, _, _, T, _⟩ := id hn
    refine h _ ⟨I.ok, I.os, I.bare, ⟨fun b o e n D l => ?_, fun b o e n D l => ?_, I.base.free, fun b o e l => ?_, I.base.tups, I.base.fc, I.base.fF⟩, ⟨_, S, fun j y U g B W => ?_⟩, fun y c e => ?_, I.free, I.iD, fun p Y => ?_, tracked ⟨oL, T, I.free⟩ f, by simpa using I.len⟩ ⟨_, f, .inl rfl⟩
    · exact (f.2 b (bq (cB (aQ e) I.ok.above))).trans (I.base.keep b o e n D l)
    · obtain ⟨Z, g⟩ := I.base.slot b o e n D l
      exact ⟨Z, (f.2 b (bq (cB (aQ e) I.ok.above))).trans g⟩
    · obtain ⟨o', g⟩ := I.base.there b o e l
      exact ⟨o', (f.2 b (bq (cB (aQ e) I.ok.above))).trans g⟩
    · by_cases F : j = i
      · subst F
        rw [hi] at g; cases g
        rw [n_ C] at B
        cases B
        exact ⟨u, r, .inl ⟨hk, by simp⟩⟩
      · rw [n9 (Ne.symm F)] at B
        obtain ⟨u', r', q⟩ := hl j y U g B W
        refine ⟨u', r', ?_⟩
        rcases q with ⟨k, e⟩ | ⟨k, c, e, z⟩
        · refine .inl ⟨k, ?_⟩
          have : y ≠ x := fun e => F (zT hN g (e ▸ hi))
          simp [this, e]
        · exact .inr ⟨k, c, e, z.sameBut f (jw y c e)⟩
    · obtain ⟨R, z⟩ := I.cell y c e
      exact ⟨R, z.sameBut f (jw y c e)⟩
    · obtain ⟨e, n, ne, nf, d⟩ := I.pin p Y
      exact ⟨(f.2 p.1 ne).trans e, n, ne, nf, d⟩
  · have G : X.fn x = true := by
      rcases hf with z | z
      · exact z
      · rw [z] at hk; cases hk
    obtain ⟨c, hc⟩ := I.ok.has x (.inl hk)
    obtain ⟨R, z⟩ := I.cell x c hc
    refine wpAny_storeName_cell I.ok.kind hk hc z (fun h' K f => ?_)
    obtain ⟨oc, L, O⟩ := id z
    refine h { s with heap := h' } ⟨I.ok, I.os, I.bare, ⟨fun b o e n D l => ?_, fun b o e n D l => ?_, I.base.free, fun b o e l => ?_, I.base.tups, I.base.fc, I.base.fF⟩, ⟨m, hn.sameBut f (Ne.symm (jw x c hc)), fun j y U g B W => ?_⟩, fun y c' e => ?_, I.free, I.iD, fun p Y => ?_, tracked ⟨oc, L, I.iD x c hc⟩ f, by simpa using I.len⟩ ⟨c, f, .inr hc⟩
    · exact (f.2 b (bq (cB (aQ e) (I.ok.oU x c G hc)))).trans (I.base.keep b o e n D l)
    · obtain ⟨Z, g⟩ := I.base.slot b o e n D l
      exact ⟨Z, (f.2 b (bq (cB (aQ e) (I.ok.oU x c G hc)))).trans g⟩
    · obtain ⟨o', g⟩ := I.base.there b o e l
      exact ⟨o', (f.2 b (bq (cB (aQ e) (I.ok.oU x c G hc)))).trans g⟩
    · by_cases F : j = i
      · subst F
        rw [hi] at g; cases g
        rw [n_ C] at B
        cases B
        exact ⟨u, r, .inr ⟨.inl hk, c, hc, K⟩⟩
      · rw [n9 (Ne.symm F)] at B
        obtain ⟨u', r', q⟩ := hl j y U g B W
        refine ⟨u', r', ?_⟩
        rcases q with q | ⟨k, c', e, z'⟩
        · exact .inl q
        · refine .inr ⟨k, c', e, z'.sameBut f ?_⟩
          rintro rfl
          exact F (zT hN g (I.ok.inj _ _ _ e hc ▸ hi))
    · by_cases P : c' = c
      · subst P; exact ⟨_, K⟩
      · obtain ⟨w2, z2⟩ := I.cell y c' e
        exact ⟨w2, z2.sameBut f P⟩
    · obtain ⟨e, n, ne, nf, d⟩ := I.pin p Y
      refine ⟨(f.2 p.1 ?_).trans e, n, ne, nf, d⟩
      intro q
      rw [q, L] at e
      have q' : oc = p.2 := Option.some.inj e
      exact d R (by rw [← q']; exact O)
theorem nF{M:Model}{A:Around}{E:aF}{i:Nat}{x:Str}{v:V}{u:Value}{Q:Unit->Shared->Prop}(I:Inv X pins σ H s)(a:X.N.Nodup)(hi:X.N[i]?=some x)(b:Loc X.env.scope x)(r:RelV v u)
  (h:∀s',Inv X pins (σ.set i (some v)) H s'->Q () s')(c:X.fn x=true\/X.env.scope.names.lookup x=some .local:=by first|exact .inl rfl|exact .inr rfl|assumption):wpAny M A (storeName X.env x u) Q E s:=
 B3 I a hi b r (λs' d _=>h s' d) c
theorem Inv.DB{s':Shared}{ch:List Addr}(I:Inv X pins σ H s)(d:s'.os=s.os)(u:Un (frs X.stack) ch H H' s.heap s'.heap)(hok:bM X.prog X.w H' s'.heap)(f:AllBare s'.gens)
  (a:∀b∈ch,(b∈X.ex\/X.s₀.heap.objs.size<=b)/\b≠X.env.locals/\(∀x c,X.env.cells.lookup x=some c->c≠b)/\∀p∈X.pn++pins,p.1≠b):Inv X pins σ H' s':=by
 obtain⟨h',g',d',t',o'⟩:=s';have e:o'=s.os:=d;subst e;exact I.call (g':=g') (t':=t') (d':=d') u hok f a
end
abbrev XK:=Value->Option Addr->Hp->Prop
abbrev St:=List (Option V)
abbrev VK:=V->Hp->Prop
abbrev TE:=St->Hp->VK->Prop
abbrev TT:=St->Hp->(Bool->Hp->Prop)->Prop
abbrev TA:=St->Hp->(List V->Hp->Prop)->Prop
structure Ends where
 nx:St->Hp->Prop
 rt:VK
 bk:St->Hp->Prop:=λ_ _=>False
 ct:St->Hp->Prop:=λ_ _=>False
abbrev TS:=Ends->St->Hp->Prop
def EP(X:Cx)(pins:aO)(σ:St)(Q:VK)(u:Value)(s':Shared):Prop:=∃v H',Inv X pins σ H' s'/\RelV v u/\Q v H'
def TP(X:Cx)(pins:aO)(σ:St)(Q:Bool->Hp->Prop)(b:Bool)(s':Shared):Prop:=∃H',Inv X pins σ H' s'/\Q b H'
def AP(X:Cx)(pins:aO)(σ:St)(Q:List V->Hp->Prop)(us:List Value)(s':Shared):Prop:=∃vs H',Inv X pins σ H' s'/\Vals vs us/\Q vs H'
def SP(X:Cx)(pins:aO)(D:Ends)(f:Flow)(s':Shared):Prop:=
 match f with
 |.next=>∃σ' H',Inv X pins σ' H' s'/\D.nx σ' H'
 |.brk=>∃σ' H',Inv X pins σ' H' s'/\D.bk σ' H'
 |.cont=>∃σ' H',Inv X pins σ' H' s'/\D.ct σ' H'
 |.ret u=>∃v σ' H',Inv X pins σ' H' s'/\RelV v u/\D.rt v H'
def PE(X:Cx)(e:Expr)(t:TE):Prop:=
 ∀(pins:aO) (s:Shared) (σ:St) (H:Hp) (Q:VK),Inv X pins σ H s->t σ H Q->wpAny (model X.prog X.w) X.A (eval e X.env) (EP X pins σ Q) X.xe s
def PT(X:Cx)(e:Expr)(t:TT):Prop:=
 ∀(pins:aO) (s:Shared) (σ:St) (H:Hp) (Q:Bool->Hp->Prop),Inv X pins σ H s->t σ H Q->wpAny (model X.prog X.w) X.A (isTrue e X.env (eval e X.env)) (TP X pins σ Q) X.xe s
def PW(X:Cx)(e:Expr)(t:TT):Prop:=
 ∀(whole:Sem Value) (pins:aO) (s:Shared) (σ:St) (H:Hp) (Q:Bool->Hp->Prop),Inv X pins σ H s->t σ H Q->wpAny (model X.prog X.w) X.A (isTrue e X.env whole) (TP X pins σ Q) X.xe s
theorem PW.pt{X:Cx}{e:Expr}{t:TT}(h:PW X e t):PT X e t:=h _
def PA(X:Cx)(es:List Expr)(t:TA):Prop:=
 ∀(pos:Pos) (pins:aO) (s:Shared) (σ:St) (H:Hp) (Q:List V->Hp->Prop),Inv X pins σ H s->t σ H Q->wpAny (model X.prog X.w) X.A (spliced (backTo pos (starEach es X.env))) (AP X pins σ Q) X.xe s
def PS(X:Cx)(st:Stmt)(t:TS):Prop:=
 ∀(pins:aO) (s:Shared) (σ:St) (H:Hp) (D:Ends),Inv X pins σ H s->t D σ H->wpAny (model X.prog X.w) X.A (exec st X.env) (SP X pins D) X.xe s
def cj(X:Cx)(st:List Stmt)(t:TS):Prop:=
 ∀(pins:aO) (s:Shared) (σ:St) (H:Hp) (D:Ends),Inv X pins σ H s->t D σ H->wpAny (model X.prog X.w) X.A (execs st X.env) (SP X pins D) X.xe s
theorem aJ{α:Type}{t:Sem α}{Q b:α->Shared->Prop}{M:Model}{A:Around}{E:aF}{s:Shared}(h:wpAny M A t Q E s)(c:∀a s,Q a s->b a s):wpAny M A t b E s:=jV h c λ_ _ x=>x
section
variable{X:Cx}
def MU(i:Nat):TE:=λσ H Q=>∃v,σ[i]?=some (some v)/\Q v H
def tC(v:V):TE:=λ_ H Q=>Q v H
theorem J6{i:Nat}{x:Str}{pos:Pos}(d:X.N[i]?=some x)(f:kh X.env.scope x)(hd:(x==("__debug__":Str))=false:=by decide)(b:(x==("__classdict__":Str))=false:=by decide):PE X (.Name x pos) (MU i):=by
 intro pins s σ H Q I h;obtain⟨v,e,h⟩:=h;obtain⟨m,hn,g⟩:=I.loc;obtain⟨u,r,l⟩:=g i x v d e f;have fin:EP X pins σ Q u s:=⟨v,H,I,r,h⟩;rcases l with⟨hk,j⟩|⟨hk,c,hc,a⟩
 .exact wpAny_Name (wpAny_loadName_local I.ok.kind hk hn j fin) hd
 .rcases hk with hk|hk
  .exact wpAny_Name (wpAny_loadName_cell I.ok.kind hk hc a fin) hd
  .exact wpAny_Name (wpAny_loadName_free I.ok.kind hk hc a fin b) hd
theorem JW{i j pos}:PE X (.Constant (.int i) j pos) (tC (.int i)):=λ_ _ _ H _ I h=>wpAny_Constant_int ⟨.int i,H,I.tok _,⟨_,rfl⟩,h⟩
theorem JM{b j pos}:PE X (.Constant (.bool b) j pos) (tC (.bl b)):=λ_ _ _ H _ I h=>Constant_bool ⟨.bl b,H,I,rfl,h⟩
theorem J4{x j pos}:PE X (.Constant (.str x) j pos) (tC (.str x)):=λ_ _ _ H _ I h=>Calls.Constant_str ⟨.str x,H,I.tok _,⟨_,rfl⟩,h⟩
def Gl(X:Cx)(x:Str):Prop:=X.env.kindOf x=some .globalImplicit
theorem t7{E:aF}{pins:aO}{s:Shared}{σ:St}{H:Hp}{x:Str}{u:Value}{pos:Pos}{Q:aF}(I:Inv X pins σ H s)(a:Gl X x)(b:X.mg x=some u)(h:Q u s)
  (hd:(x==("__debug__":Str))=false:=by decide):wpAny (model X.prog X.w) X.A (eval (.Name x pos) X.env) Q E s:=
 Calls.Name_function_global I.ok.kind a (Calls.loadGlobal_global (by rw[I.ok.glob];exact I.mod.glob.keeps I.bk) b h) hd
theorem mR{E:aF}{pins:aO}{s:Shared}{σ:St}{H:Hp}{x:Str}{u:Value}{pos:Pos}{Q:aF}(I:Inv X pins σ H s)(a:Gl X x)(b:X.mg x=none)(c:bootBuiltins x=some u)(h:Q u s)
  (hn:x≠"__name__":=by decide)(hd:(x==("__debug__":Str))=false:=by decide):wpAny (model X.prog X.w) X.A (eval (.Name x pos) X.env) Q E s:=by
 obtain⟨mb,h1,h2⟩:=I.mod.blt;exact Calls.Name_function_global I.ok.kind a (Calls.loadGlobal_builtin (by rw[I.ok.glob];exact I.mod.glob.keeps I.bk) b (by rw[I.ok.blt];exact h1.keeps I.bk) ((h2 x hn).trans c) h) hd
theorem Aa{x:Str}{v:V}{u:Value}{pos:Pos}(a:Gl X x)(b:X.mg x=some u)(r:RelV v u)(hd:(x==("__debug__":Str))=false:=by decide):PE X (.Name x pos) (tC v):=
 λ_ _ _ H _ I h=>t7 I a b ⟨v,H,I,r,h⟩ hd
theorem JN{x:Str}{v:V}{u:Value}{pos:Pos}(a:Gl X x)(b:X.mg x=none)(c:bootBuiltins x=some u)(r:RelV v u)(hn:x≠"__name__":=by decide)(hd:(x==("__debug__":Str))=false:=by decide):PE X (.Name x pos) (tC v):=
 λ_ _ _ H _ I h=>mR I a b c ⟨v,H,I,r,h⟩ hn hd
variable{a b:Expr}{ta tb:TE}{pos:Pos}
def tB(t:TE):TT:=λσ H Q=>t σ H λx H1=>∃c,x=.bl c/\Q c H1
theorem KL{e:Expr}{t:TE}(h:PE X e t)(a:∀whole,isTrue e X.env whole=(do let v <-whole;standAt e.pos;holding [v] (truthy v)):=by intro _;rfl):PT X e (tB t):=by
 intro pins s σ H Q I b;refine isTrue_plain (aJ (h pins s σ H _ I b) λv i ⟨x,H1,c,f,g⟩=>?_) (a _);obtain⟨d,rfl,q⟩:=g;cases f;exact jg ⟨H1,c,q⟩
variable{tA qO:TT}{rest:List Expr}
def Mn(t u:TT):TT:=λσ H Q=>t σ H λc H1=>if c=true then u σ H1 Q else Q false H1
def ML(t u:TT):TT:=λσ H Q=>t σ H λc H1=>if c=true then Q true H1 else u σ H1 Q
def MK(t:TT):TT:=λσ H Q=>t σ H λc H1=>Q (!c) H1
theorem pw_and1(b:PT X a tA):PW X (.BoolOp .And [a] pos) tA:=by
 intro d pins s σ H Q I h;refine isTrue_and (aJ (b pins s σ H Q I h) λc f e=>?_);cases c with
 |true=>exact isTrue_and_nil e
 |false=>exact e
theorem pw_or1(b:PT X a tA):PW X (.BoolOp .Or [a] pos) tA:=by
 intro d pins s σ H Q I h;refine isTrue_or (aJ (b pins s σ H Q I h) λc f e=>?_);cases c with
 |false=>exact isTrue_or_nil e
 |true=>exact e
theorem pw_and(f:PT X a tA)(g:PW X (.BoolOp .And (b::rest) pos) qO):PW X (.BoolOp .And (a::b::rest) pos) (Mn tA qO):=by
 intro i pins s σ H Q I h;refine isTrue_and (aJ (f pins s σ H _ I h) λc j ⟨H1,d,e⟩=>?_);cases c with
 |true=>exact g i pins j σ H1 Q d e
 |false=>exact⟨H1,d,e⟩
theorem pw_or(f:PT X a tA)(g:PW X (.BoolOp .Or (b::rest) pos) qO):PW X (.BoolOp .Or (a::b::rest) pos) (ML tA qO):=by
 intro i pins s σ H Q I h;refine isTrue_or (aJ (f pins s σ H _ I h) λc j ⟨H1,d,e⟩=>?_);cases c with
 |true=>exact⟨H1,d,e⟩
 |false=>exact g i pins j σ H1 Q d e
theorem KJ(b:PT X a tA):PT X (.UnaryOp .Not a pos) (MK tA):=by
 intro pins s σ H Q I h;exact isTrue_not (b pins s σ H (λc H1=>Q (!c) H1) I h)
def Mp(ta tb:TE):TE:=λσ H Q=>ta σ H λx H1=>∃c,x=.bl c/\if c=true then tb σ H1 Q else Q (.bl false) H1
theorem J1{op}{t:TE}(h:PE X a t):PE X (.BoolOp op [a] pos) t:=λpins s σ H Q I b=>BoolOp_one (h pins s σ H Q I b)
theorem JL(f:PE X a ta)(g:PE X (.BoolOp .And (b::rest) pos) tb):PE X (.BoolOp .And (a::b::rest) pos) (Mp ta tb):=by
 intro pins s σ H Q I h;refine BoolOp_and (aJ (f pins s σ H _ I h) λv i ⟨x,H1,e,j,d⟩=>?_);obtain⟨c,rfl,d⟩:=d;cases j;refine jg ?_;cases c with
 |true=>exact g pins i σ H1 Q e d
 |false=>exact⟨.bl false,H1,e,rfl,d⟩
def Mw(t:TT)(ta tb:TE):TE:=λσ H Q=>t σ H λc H1=>if c=true then ta σ H1 Q else tb σ H1 Q
theorem JV{c:Expr}(hc:PT X c tA)(i:PE X a ta)(j:PE X b tb):PE X (.IfExp c a b pos) (Mw tA ta tb):=by
 intro pins s σ H Q I h;refine wpAny_IfExp (aJ (hc pins s σ H _ I h) λd e ⟨H1,f,g⟩=>?_);cases d with
 |true=>exact i pins e σ H1 Q f g
 |false=>exact j pins e σ H1 Q f g
end
def aZ(K:Frag)(H:Hp)(a:Addr)(xs:List V):Prop:=
 Rd H a (.lst xs)\/
  ∃(o:Obj) (its:Array Value) (n:Nat),K.lookup a=some o/\o.cls=.type "list"/\o.dict=none/\o.data=.seq its n/\its.size<=sizeLine/\Vals xs its.toList
def bf(K:Frag)(H:Hp)(a:Addr)(xs:List V):Prop:=
 Rd H a (.tup xs)\/
  ∃(o:Obj) (its:Array Value) (n:Nat),K.lookup a=some o/\o.cls=.type "tuple"/\o.data=.seq its n/\its.size<=sizeLine/\Vals xs its.toList
def Dl:Value->Option V
 |.none=>some .aM
 |.bool b=>some (.bl b)
 |.int i _=>some (.int i)
 |.str x _=>some (.str x)
 |.bytes b _=>some (.gg b)
 |.float b _=>some (.kM b)
 |.ref a=>some (.ref a)
 |.type n=>some (.ty n)
 |_=>none
theorem RelV.abs{x:V}{u:Value}(r:RelV x u):Dl u=some x:=by
 cases x with
 |aM=>cases r;rfl
 |bl _=>cases r;rfl
 |int _=>obtain⟨t,rfl⟩:=r;rfl
 |str _=>obtain⟨t,rfl⟩:=r;rfl
 |gg _=>obtain⟨t,rfl⟩:=r;rfl
 |kM _=>obtain⟨t,rfl⟩:=r;rfl
 |ref _=>cases r;rfl
 |ty _=>cases r;rfl
theorem RelV.inj{x y:V}{u:Value}(r:RelV x u)(q:RelV y u):x=y:=Option.some.inj (r.abs.symm.trans q.abs)
theorem Vals.inj:∀{xs ys:List V} {a:List Value},Vals xs a->Vals ys a->xs=ys
 |_,_,_,.nil,.nil=>rfl
 |_,_,_,.cons r t,.cons r' t'=>by rw[r.inj r',Vals.inj t t']
section
variable{X:Cx}{pins:aO}{σ:St}{H:Hp}{s:Shared}{a:Addr}{xs ys:List V}
theorem aZ.of{K:Frag}(h:H a=some (.lst xs)):aZ K H a xs:=.inl (.inl h)
theorem bf.of{K:Frag}(h:H a=some (.tup xs)):bf K H a xs:=.inl (.inl h)
theorem Inv.list(I:Inv X pins σ H s)(h:aZ X.K H a xs):∃its:List Value,Vals xs its/\PlainL s.heap a its.toArray/\xs.length<=sizeLine:=by
 rcases h with h|⟨o,its,n,hk,hc,hd,b,c,r⟩
 .obtain⟨z,its,n,r,e⟩:=h.ok I.hok
  exact⟨its,r,⟨_,n,e,rfl,rfl,rfl⟩,z⟩
 .refine⟨its.toList,r,⟨o,n,I.dz a o hk,hc,hd,by simpa using b⟩,?_⟩
  have e:=r.length;simp only[bH] at e;omega
theorem Inv.tuple(I:Inv X pins σ H s)(h:bf X.K H a xs):∃its:List Value,Vals xs its/\IsTup s.heap a its.toArray/\xs.length<=sizeLine:=by
 rcases h with h|⟨o,its,n,hk,hc,b,c,r⟩
 .obtain⟨z,its,r,p⟩:=h.ok I.hok
  exact⟨its,r,p.is,z⟩
 .refine⟨its.toList,r,⟨o,I.dz a o hk,hc,n,by simpa using b⟩,?_⟩
  have e:=r.length;simp only[bH] at e;omega
theorem Inv.M1(I:Inv X pins σ H s)(h:H a=some (.tup xs)):∃(its:List Value) (n:Nat),Vals xs its/\s.heap.get? a=some {cls:=.type "tuple",data:=.seq its.toArray n}/\xs.length<=sizeLine:=by
 obtain⟨z,its,r,n,e⟩:=(show bT X.prog X.w H s.heap a (.tup xs) from I.hok a _ h);exact⟨its,n,r,e,z⟩
theorem Inv.Ie(I:Inv X pins σ H s)(h:aZ X.K H a xs)(h':aZ X.K H a ys):xs=ys:=by
 obtain⟨its,r,⟨o,n,e,_,_,d⟩,_⟩:=I.list h;obtain⟨its',r',⟨o',n',b,_,_,d'⟩,_⟩:=I.list h';rw[e] at b;cases b;rw[d] at d';injection d' with c _;have:its=its':=by simpa using cz toList c
 subst this;exact r.inj r'
theorem Inv.M3(I:Inv X pins σ H s)(h:bf X.K H a xs)(h':bf X.K H a ys):xs=ys:=by
 obtain⟨its,r,⟨o,e,_,n,d⟩,_⟩:=I.tuple h;obtain⟨its',r',⟨o',b,_,n',d'⟩,_⟩:=I.tuple h';rw[e] at b;cases b;rw[d] at d';injection d' with c _;have:its=its':=by simpa using cz toList c
 subst this;exact r.inj r'
end
section
variable{X:Cx}{st:Stmt}{rest:List Stmt}{t u:TS}{e:Expr}{te:TE}{pos:Pos}
def MB:TS:=λD σ H=>D.nx σ H
def MQ(t u:TS):TS:=λD σ H=>t {D with nx:=u D} σ H
theorem KD:cj X [] MB:=λ_ _ σ H _ I h=>rz ⟨σ,H,I,h⟩
theorem KC(h1:PS X st t)(h2:cj X rest u):cj X (st::rest) (MQ t u):=by
 intro pins s σ H D I h;refine wpAny_execs_cons (aJ (h1 pins s σ H {D with nx:=u D} I h) λf a q=>?_);cases f with
 |next=>
  obtain⟨σ',H',b,q⟩:=q;exact h2 pins a σ' H' D b q
 |ret v=>exact q
 |brk=>exact q
 |cont=>exact q
theorem KG(h1:PS X st t):cj X [st] t:=by
 intro pins s σ H D I h;refine wpAny_execs_cons (aJ (h1 pins s σ H D I h) λf a q=>?_);cases f with
 |next=>exact rz q
 |ret v=>exact q
 |brk=>exact q
 |cont=>exact q
theorem Inv.quiet{pins:aO}{σ:St}{H:Hp}{s:Shared}(I:Inv X pins σ H s):interactive X.env=false:=by simp[interactive,I.ok.kind]
def Mt(te:TE):TS:=λD σ H=>te σ H λ_ H1=>D.nx σ H1
theorem Kr(a:PE X e te)(b:swapsWith e none pos.line X.env=pure false:=by rfl):PS X (.Expr e pos) (Mt te):=by
 intro pins s σ H D I h;exact wpAny_Expr_any (aJ (a pins s σ H _ I h) λv f ⟨x,H1,c,g,d⟩=>⟨σ,H1,c,d⟩) I.quiet b
def MP(te:TE):TS:=λD σ H=>te σ H D.rt
theorem Ky(a:PE X e te):PS X (.Return (some e) pos) (MP te):=by
 intro pins s σ H D I h;exact wpAny_Return_some (aJ (a pins s σ H _ I h) λv f ⟨x,H1,b,c,d⟩=>⟨x,σ,H1,b,c,d⟩)
def Mx(c:TT)(t u:TS):TS:=λD σ H=>c σ H λb H1=>if b=true then t D σ H1 else u D σ H1
theorem Ku{c:Expr}{a b:List Stmt}{tc:TT}(hc:PT X c tc)(i:cj X a t)(j:cj X b u):PS X (.If c a b pos) (Mx tc t u):=by
 intro pins s σ H D I h;refine wpAny_If (aJ (hc pins s σ H _ I h) λd e ⟨H1,f,g⟩=>?_);cases d with
 |true=>exact i pins e σ H1 D f g
 |false=>exact j pins e σ H1 D f g
end
abbrev TG:=V->St->Hp->(St->Hp->Prop)->Prop
abbrev gD:=List V->St->Hp->(St->Hp->Prop)->Prop
def PG(X:Cx)(target:Expr)(t:TG):Prop:=
 ∀(pins:aO) (s:Shared) (σ:St) (H:Hp) (v:V) (u:Value) (Q:St->Hp->Prop),Inv X pins σ H s->RelV v u->t v σ H Q->
  wpAny (model X.prog X.w) X.A (assign target X.env u) (λ_ s'=>∃σ' H',Inv X pins σ' H' s'/\Q σ' H') X.xe s
def gB(X:Cx)(ts:List Expr)(t:gD):Prop:=
 ∀(pins:aO) (s:Shared) (σ:St) (H:Hp) (vs:List V) (us:List Value) (Q:St->Hp->Prop),Inv X pins σ H s->Vals vs us->t vs σ H Q->
  wpAny (model X.prog X.w) X.A (assignInOrder ((assignEach ts X.env).map (·.2)) us) (λ_ s'=>∃σ' H',Inv X pins σ' H' s'/\Q σ' H') X.xe s
abbrev oB:=V->V->Hp->VK->Prop
def we(X:Cx)(op:Operator)(t:oB):Prop:=
 ∀(pins:aO) (s:Shared) (σ:St) (H:Hp) (x y:V) (v u:Value) (Q:VK),Inv X pins σ H s->RelV x v->RelV y u->t x y H Q->
  wpAny (model X.prog X.w) X.A (inplaceOp op v u) (EP X pins σ Q) X.xe s
section
variable{X:Cx}{pos:Pos}
def kO(i:Nat):TG:=λv σ H Q=>Q (σ.set i (some v)) H
theorem Ac{i:Nat}{x:Str}(a:X.N.Nodup)(hi:X.N[i]?=some x)(b:Loc X.env.scope x)(c:X.fn x=true\/X.env.scope.names.lookup x=some .local:=by first|exact .inl rfl|exact .inr rfl|assumption):PG X (.Name x pos) (kO i):=by
 intro pins s σ H v u Q I r h;exact wpAny_assign_Name (nF I a hi b r (λs' d=>⟨_,H,d,h⟩) c)
def yT:gD:=λvs σ H Q=>vs=[]/\Q σ H
def yS(t:TG)(u:gD):gD:=λvs σ H Q=>∃v r,vs=v::r/\t v σ H λσ' H'=>u r σ' H' Q
theorem uG:gB X [] yT:=by
 intro pins s σ H a b Q I r h;obtain⟨e,h⟩:=h;subst e;cases r;exact assignInOrder_nil ⟨σ,H,I,h⟩
theorem ni{e:Expr}{es:List Expr}{t:TG}{u:gD}(h1:PG X e t)(h2:gB X es u)
  (b:(assignEach (e::es) X.env).map (·.2)=assign e X.env::(assignEach es X.env).map (·.2):=by rfl):gB X (e::es) (yS t u):=by
 intro pins s σ H j k Q I r h;obtain⟨v,vr,c,h⟩:=h;subst c;cases r with
 |cons r d=>
  rw[b];refine assignInOrder_cons (aJ (h1 pins s σ H _ _ _ I r h) λ_ f ⟨a,H1,g,i⟩=>?_);exact h2 pins f a H1 _ _ Q g d i
def yU(K:Frag)(n:Nat)(t:gD):TG:=λv σ H Q=>∃a xs,v=.ref a/\bf K H a xs/\xs.length=n/\t xs σ H Q
theorem uF{es:List Expr}{k:Nat}{t:gD}{n:Nat}(hc:X.calm=true)(h:gB X es t)
  (hn:(assignEach es X.env).length=n:=by rfl)(c:(assignEach es X.env).findIdx? (·.1)=none:=by rfl):PG X (.Tuple es k pos) (yU X.K n t):=by
 intro pins s σ H v u Q I r d;obtain⟨a,xs,g,i,j,d⟩:=d;subst g;cases r;obtain⟨its,f,l,q⟩:=I.tuple i;refine assign_Tuple_tuple (I.ok.hd hc) l (by simp[hn,<-j,f.length]) c λh' m=>?_;have p:Inv X pins σ H {s with heap:=h'}:=I.kept (t':=s.toks) λb o e=>m b o (bq (aQ e)) e;exact h pins _ σ H xs _ Q p (by simpa using f) d
def Cb(te:TE)(g:TG):TS:=λD σ H=>te σ H λx H1=>g x σ H1 D.nx
theorem Kz{i:Nat}{x:Str}{e:Expr}{te:TE}{pos':Pos}(a:X.N.Nodup)(hi:X.N[i]?=some x)(b:Loc X.env.scope x)(c:PE X e te)(d:swapsWith e (some (.Name x pos')) pos.line X.env=pure false:=by rfl)(f:X.fn x=true\/X.env.scope.names.lookup x=some .local:=by first|exact .inl rfl|exact .inr rfl|assumption):
  PS X (.Assign [.Name x pos'] e pos) (Cb te (kO i)):=by
 intro pins s σ H D I h;refine wpAny_Assign_Name (aJ (c pins s σ H _ I h) λv m ⟨y,H1,g,j,k⟩=>?_) d;exact nF g a hi b j (λn l=>⟨_,H1,l,k⟩) f
def MM(i j:Nat)(ta:TA):TS:=λD σ H=>ta σ H λvs H1=>∃v w,vs=[v,w]/\D.nx ((σ.set i (some v)).set j (some w)) H1
theorem Kv{i j:Nat}{x y:Str}{a b:Expr}{ta:TA}{px py pt:Pos}{kt k2 c}(hc:X.calm=true)(r:X.N.Nodup)(hi:X.N[i]? =some x)(B:X.N[j]? =some y)(k:i≠j)
  (t:X.env.scope.names.lookup x=some .local)(u:X.env.scope.names.lookup y=some .local)(C:PA X [a,b] ta)
  (E:swappedStores [.Tuple [.Name x px,.Name y py] kt pt] (.Tuple [a,b] k2 c) X.env=pure (some [x,y]))
  (F:swapsWithSole [.Tuple [.Name x px,.Name y py] kt pt] (.Tuple [a,b] k2 c) pos.line X.env=pure false:=by rfl):
  PS X (.Assign [.Tuple [.Name x px,.Name y py] kt pt] (.Tuple [a,b] k2 c) pos) (MM i j ta):=by
 intro pins s σ H D I h
 rw[exec_Assign_arm]
 refine ah (rC ?_)
 rw[F]
 refine ah (aB ?_)
 rw[av (by decide)]
 refine ah (Tuple_ (aJ (C _ pins s σ H _ I h) λG d ⟨T,H1,J,K,l⟩=> ?_))
 obtain⟨v,w,L,l⟩:=l
 subst L
 obtain⟨f,g,rfl,M,m⟩:∃f g,G=[f,g]/\RelV v f/\RelV w g:=by
  cases K with
  |cons p q=>
   cases q with
   |cons O P=>
    cases P
    exact⟨_,_,rfl,p,O⟩
 refine eu ?_ (by show 2<=sizeLine;decide)
 have Q:Inv X pins σ H1 {d with heap:=d.heap.push {cls:= .type "tuple",data:= .seq [f,g].toArray}}:=J.kept (t':=d.toks) λb o e=>bw _ e
 rw[E]
 refine ah (aB ?_)
 show wpAny (model X.prog X.w) X.A (do rule "assign.swapped-stores";let items <-unpackItems (.ref d.heap.objs.size) 2 none;assignInOrder [λv=>bindName X.env y v,λv=>bindName X.env x v] items.reverse;pure Flow.next) _ _ _
 refine ah (gS (ah (unpackItems_tuple (items:= #[f,g]) (I.ok.hd hc) (IsTup.new d.heap _) λh' n=> ?_)))
 have R:=Q.kept (h':=h') (t':=d.toks) λb o e=>n b o (bq (aQ e)) e
 show wpAny _ _ (assignInOrder [λv=>bindName X.env y v,λv=>bindName X.env x v] [g,f]>>=λ_=>pure Flow.next) _ _ _
 refine ah (assignInOrder_cons (wpAny_bindName (nF R r B (.inl u) m (λU S=> ?_) (.inr u))))
 refine assignInOrder_cons (wpAny_bindName (nF S r hi (.inl t) M (λV z=>assignInOrder_nil (aB ?_)) (.inr t)))
 rw[List.set_comm _ _ (Ne.symm k)] at z
 exact⟨_,H1,z,l⟩
def Mq(i:Nat)(te:TE)(ti:oB):TS:=λD σ H=>∃x,σ[i]?=some (some x)/\te σ H λy H1=>ti x y H1 λz H2=>D.nx (σ.set i (some z)) H2
theorem Kp{i:Nat}{x:Str}{e:Expr}{te:TE}{op:Operator}{j:oB}{pos':Pos}(n:X.N.Nodup)(hi:X.N[i]?=some x)(f:Loc X.env.scope x)(o:PE X e te)(p:we X op j)(q:X.fn x=true\/X.env.scope.names.lookup x=some .local:=by first|exact .inl rfl|exact .inr rfl|assumption):
  PS X (.AugAssign (.Name x pos') op e pos) (Mq i te j):=by
 intro pins s σ H D I h;obtain⟨v,t,h⟩:=h;obtain⟨m,hn,B⟩:=I.loc;have g:kh X.env.scope x:=by rcases f with k|k;exact .inl k;exact .inr (.inl k)
 obtain⟨u,r,l⟩:=B i x v hi t g;refine wpAny_AugAssign_Name ?_;have go:wpAny (model X.prog X.w) X.A (eval e X.env) (λw b=>wpAny (model X.prog X.w) X.A (inplaceOp op u w) (λr d=>wpAny (model X.prog X.w) X.A (storeName X.env x r) (λ_=>SP X pins D .next) X.xe d) X.xe b) X.xe s:=by
  refine aJ (o pins s σ H _ I h) λw C ⟨y,H1,E,F,G⟩=>?_;refine aJ (p pins C σ H1 v y u w _ E r F G) λz P ⟨Q,H2,J,K,L⟩=>?_;exact nF J n hi f K (λR M=>⟨_,H2,M,L⟩) q
 rcases l with⟨hk,O⟩|⟨hk,c,hc,a⟩
 .exact wpAny_loadName_local I.ok.kind hk hn O go
 .rcases hk with hk|hk
  .exact wpAny_loadName_cell I.ok.kind hk hc a go
  .rcases f with k|k
   .have:X.env.scope.names.lookup x=some .free:=hk
    rw[k] at this;cases this
   .have:X.env.scope.names.lookup x=some .free:=hk
    rw[k] at this;cases this
def Hh(f:Int->Int->Int):oB:=λx y H Q=>∃i j,x=.int i/\y=.int j/\Q (.int (f i j)) H
theorem Hi:we X .Add (Hh λi j=>i+j):=by
 intro pins s σ H x y v u Q I a b h;obtain⟨i,j,c,d,q⟩:=h;subst c;subst d;obtain⟨t,rfl⟩:=a;obtain⟨t',rfl⟩:=b;exact iadd_int ⟨.int _,H,I.tok _,⟨_,rfl⟩,q⟩
end
section
variable{X:Cx}{pos:Pos}
def MV(c:TT)(tb:TS):TS:=λD σ H=>∃W:Nat->St->Hp->Prop,(∃m,W m σ H)/\∀m σ H,W m σ H->
 c σ H λb H1=>if b=true then ∃N:St->Hp->Prop,(∀σ' H',N σ' H'->∃m',m'<m/\W m' σ' H')/\tb {D with nx:=N,ct:=N,bk:=D.nx} σ H1 else D.nx σ H1
theorem KA{c:Expr}{body:List Stmt}{tc:TT}{tb:TS}(p:PassesOwn (model X.prog X.w) X.A X.env X.xe)(hc:PT X c tc)(t:cj X body tb):PS X (.While c body [] pos) (MV tc tb):=by
 intro pins s σ H D I h;obtain⟨W,⟨m0,u⟩,turn⟩:=h;refine wpAny_While (codeAny_whileLoop (λn s'=>∃σ' H',Inv X pins σ' H' s'/\W n σ' H') ?_ m0 ⟨σ,H,I,u⟩);rintro n x ⟨d,H1,y,z⟩;refine jW p (aJ (hc pins x d H1 _ y (turn n d H1 z)) λb B ⟨H2,q,g⟩=>?_);cases b with
 |true=>
  obtain⟨N,r,g⟩:=g;rw[ao rfl];refine jW p (aJ (t pins B d H2 _ q g) λf C i=>?_);cases f with
  |next=>
   obtain⟨a,e,j,k⟩:=i;obtain⟨l,m,o⟩:=r a e k;exact⟨l,m,a,e,j,o⟩
  |cont=>
   obtain⟨a,e,j,k⟩:=i;obtain⟨l,m,o⟩:=r a e k;exact⟨l,m,a,e,j,o⟩
  |brk=>exact i
  |ret v=>exact i
 |false=>
  rw[av bR];exact rz ⟨d,H2,q,g⟩
end
structure It where
 go:Nat->Hp->Prop
 qX:Nat->Hp->V->Hp->Prop
 stop:Nat->Hp->Prop
def eE(X:Cx)(pins:aO)(H:Hp)(b:Addr):Prop:=
 H b=none/\b≠X.env.locals/\b∉X.fs/\(b∈X.ex\/X.s₀.heap.objs.size<=b)/\(∀x c,X.env.cells.lookup x=some c->c≠b)/\∀p∈X.pn++pins,p.1≠b
theorem Inv.tK{X:Cx}{pins:aO}{σ:St}{H H':Hp}{s:Shared}{b:Addr}(I:Inv X pins σ H s)(a:s.heap.objs.size<=b)(hn:H' b=none):eE X pins H' b:=by
 refine⟨hn,je (cB I.lt a),I.Ja a,.inr (cM I.sz a),λx c e z=>?_,λp d z=>?_⟩
 .obtain⟨v,q⟩:=I.cell x c e
  exact absurd (cB q.lt (by rw[z];exact a)) (eZ _)
 .exact absurd (cB (aQ (I.pin p d).1) (by rw[z];exact a)) (eZ _)
structure Turn(P:Program)(w:World)(K:Frag)(tg:Expr)(J:It)(fp:List Addr)(it:Addr)(tn:Nat->Heap->Prop):Prop where
 mem:it∈fp
 obj:∀i h,tn i h->∀b∈fp,∃o,h.get? b=some o/\∀v,o.data≠ .cell v
 keep:∀i h h',tn i h->(∀b∈fp,∀o,h.get? b=some o->h'.get? b=some o)->tn i h'
 item:∀(X:Cx),X.prog=P->X.w=w->X.K=K->X.calm=true->∀(i:Nat) (pins:aO) (s:Shared) (σ:St) (H:Hp) (E:aF),Inv X pins σ H s->(∀b∈fp,eE X pins H b)->tn i s.heap->J.go i H->
  wpAny (model P w) X.A (pyNext (.ref it)) (λr s1=>∃u,r=some u/\
   wpAny (model P w) X.A (letOwnedTupleGo tg (.ref it) u) (λ_ s2=>∃x H',Inv X pins σ H' s2/\RelV x u/\J.qX i H x H'/\tn (i+1) s2.heap/\∀b∈fp,H' b=none) E s1) E s
 done:∀(X:Cx),X.prog=P->X.w=w->X.K=K->X.calm=true->∀(i:Nat) (pins:aO) (s:Shared) (σ:St) (H:Hp) (E:aF),Inv X pins σ H s->(∀b∈fp,eE X pins H b)->tn i s.heap->J.stop i H->
  wpAny (model P w) X.A (pyNext (.ref it)) (λr s1=>r=none/\Inv X pins σ H s1) E s
 self:∀(A:Around) (i:Nat) (s:Shared) (Q:aF) (E:aF),tn i s.heap->Q (.ref it) s->wpAny (model P w) A (pyIter (.ref it)) Q E s
abbrev TI:=St->Hp->(It->Hp->Prop)->Prop
def wc(X:Cx)(pins:aO)(σ:St)(tg:Expr)(R:It->Hp->Prop)(itv:Value)(s2:Shared):Prop:=
 ∃(it:Addr) (fp:List Addr) (tn:Nat->Heap->Prop) (J:It) (H':Hp),itv=.ref it/\Inv X pins σ H' s2/\Turn X.prog X.w X.K tg J fp it tn/\tn 0 s2.heap/\(∀b∈fp,eE X pins H' b)/\R J H'
def PI(X:Cx)(tg iter:Expr)(wi:TI):Prop:=
 ∀(pins:aO) (s:Shared) (σ:St) (H:Hp) (R:It->Hp->Prop),Inv X pins σ H s->wi σ H R->
  wpAny (model X.prog X.w) X.A (eval iter X.env) (λv s1=>wpAny (model X.prog X.w) X.A (pyIter v) (wc X pins σ tg R) X.xe s1) X.xe s
theorem yV{M:Model}{A:Around}{E:aF}{s:Shared}{tg:Expr}{it:Addr}{u:Value}{o:Obj}{n:String}{b:Array Value}{Q:Unit->Shared->Prop}(c:s.heap.get? it=some o)(hc:o.cls=.type n)(hd:o.data=.fields b)
  (hn:["enumerate","zip","dict_itemiterator","dict_reverseitemiterator","odict_iterator","itertools.zip_longest","itertools.pairwise"].contains n=false)(a:Q () s):wpAny M A (letOwnedTupleGo tg (.ref it) u) Q E s:=by
 unfold letOwnedTupleGo;cases tg<;>first
  |exact aB a
  |(cases u<;>first
    |exact aB a
    |(refine ah (wpAny_load c ?_)
      rw[hc,hd];show wpAny M A (if (["enumerate","zip","dict_itemiterator","dict_reverseitemiterator","odict_iterator","itertools.zip_longest","itertools.pairwise"].contains n&&b[0]? ==some (rawInt _))=true then _ else _) Q E s;rw[av (by intro h;rw[hn,Bool.false_and] at h;cases h)];exact aB a))
def om(K:Frag)(a:Addr):It:=
 ⟨λi H=>∃xs x,aZ K H a xs/\xs[i]?=some x,λi H x H'=>H'=H/\∀xs,aZ K H a xs->xs[i]?=some x,λi H=>∃xs,aZ K H a xs/\xs.length<=i⟩
def rQ(K:Frag)(a:Addr):It:=
 ⟨λi H=>∃xs x,bf K H a xs/\xs[i]?=some x,λi H x H'=>H'=H/\∀xs,bf K H a xs->xs[i]?=some x,λi H=>∃xs,bf K H a xs/\xs.length<=i⟩
theorem M6{P:Program}{w:World}{K:Frag}{tg:Expr}(a it:Addr):Turn P w K tg (om K a) [it] it (λi h=>h.IsListIter it a i) where
 mem:=by simp
 obj:=λi h st b f=>by
  have e:b=it:=by simpa using f
  subst e
  obtain⟨o,e,c,d⟩:=st
  exact⟨o,e,λv z=>by rw[d] at z;cases z⟩
 keep:=λi h h' st k=>st.at λo e=>k it (by simp) o e
 item:=by
  intro X m n q hc i pins s σ H E I j st r
  subst m n q
  obtain⟨xs,x,l,t⟩:=r
  obtain⟨its,y,p,C⟩:=I.list l
  obtain⟨u,D,ru⟩:=y.get t
  obtain⟨f0,f1,f2,A,f4,B⟩:=j it (by simp)
  refine wpAny_pyNext_list_item st p.isList (x:=u) (by simpa using D) λh' g sb=> ?_
  have F:Inv X pins σ H {s with heap:=h'}:=I.turned (t':=s.toks) (λb o f e=>(sb.2 b f).trans e) f0 f1 A f4 B
  obtain⟨o,e,c,d⟩:=id g
  exact⟨u,rfl,yV (s:={s with heap:=h'}) e c d (by decide) ⟨x,H,F,ru,⟨rfl,λys G=>by rw[I.Ie G l];exact t⟩,g,λb f=>(j b f).1⟩⟩
 done:=by
  intro X m n q hc i pins s σ H E I j st r
  subst m n q
  obtain⟨xs,l,t⟩:=r
  obtain⟨its,y,p,C⟩:=I.list l
  obtain⟨f0,f1,f2,A,f4,B⟩:=j it (by simp)
  have L:=y.length
  exact wpAny_pyNext_list_end (I.ok.hd hc) st p.isList (by simp;omega) λh' J=>⟨rfl,I.turned (t':=s.toks) (λb o f e=>J b o f e) f0 f1 A f4 B⟩
 self:=λ_ _ _ _ _ st h=>wpAny_pyIter_listiter st h
theorem M9{P:Program}{w:World}{K:Frag}{tg:Expr}(a it:Addr):Turn P w K tg (rQ K a) [it] it (λi h=>h.IsTupleIter it a i) where
 mem:=by simp
 obj:=λi h st b f=>by
  have e:b=it:=by simpa using f
  subst e
  obtain⟨o,e,c,d⟩:=st
  exact⟨o,e,λv z=>by rw[d] at z;cases z⟩
 keep:=λi h h' st k=>st.at λo e=>k it (by simp) o e
 item:=by
  intro X m n q hc i pins s σ H E I j st r
  subst m n q
  obtain⟨xs,x,l,t⟩:=r
  obtain⟨its,y,p,C⟩:=I.tuple l
  obtain⟨u,D,ru⟩:=y.get t
  obtain⟨f0,f1,f2,A,f4,B⟩:=j it (by simp)
  refine wpAny_pyNext_tuple_item st (show s.heap.IsTuple a its.toArray from p) (x:=u) (by simpa using D) λh' g sb=> ?_
  have F:Inv X pins σ H {s with heap:=h'}:=I.turned (t':=s.toks) (λb o f e=>(sb.2 b f).trans e) f0 f1 A f4 B
  obtain⟨o,e,c,d⟩:=id g
  exact⟨u,rfl,yV (s:={s with heap:=h'}) e c d (by decide) ⟨x,H,F,ru,⟨rfl,λys G=>by rw[I.M3 G l];exact t⟩,g,λb f=>(j b f).1⟩⟩
 done:=by
  intro X m n q hc i pins s σ H E I j st r
  subst m n q
  obtain⟨xs,l,t⟩:=r
  obtain⟨its,y,p,C⟩:=I.tuple l
  obtain⟨f0,f1,f2,A,f4,B⟩:=j it (by simp)
  have L:=y.length
  exact wpAny_pyNext_tuple_end (I.ok.hd hc) st (show s.heap.IsTuple a its.toArray from p) (by simp;omega) λh' J=>⟨rfl,I.turned (t':=s.toks) (λb o f e=>J b o f e) f0 f1 A f4 B⟩
 self:=λ_ _ _ _ _ st h=>wpAny_pyIter_tupleiter st h
section
variable{X:Cx}{tg:Expr}
def Mv(wi:TI)(g:TG)(tb:TS):TS:=λD σ H=>wi σ H λJ H1=>∃W:Nat->Nat->St->Hp->Prop,(∃m,W 0 m σ H1)/\∀i m σ H,W i m σ H->
 (J.stop i H/\D.nx σ H)\/(J.go i H/\∃N:St->Hp->Prop,(∀σ' H',N σ' H'->∃m',m'<m/\W (i+1) m' σ' H')/\∀x H',J.qX i H x H'->g x σ H' λσ2 H2=>tb {D with nx:=N,ct:=N,bk:=D.nx} σ2 H2)
def nj(fp:List Addr)(h:Heap):aO:=fp.filterMap λb=>(h.get? b).map λo=>(b,o)
theorem pX{fp:List Addr}{h:Heap}{b:Addr}{o:Obj}(a:b∈fp)(e:h.get? b=some o):(b,o)∈nj fp h:=nO.mpr ⟨b,a,by rw[e];rfl⟩
theorem Ji{fp:List Addr}{h:Heap}{p:Addr×Obj}(a:p∈nj fp h):p.1∈fp/\h.get? p.1=some p.2:=by
 obtain⟨b,c,e⟩:=nO.mp a;cases q:h.get? b with
 |none=>rw[q] at e;cases e
 |some o=>
  rw[q] at e;have d:(b,o)=p:=Option.some.inj e;subst d;exact⟨c,q⟩
theorem Inv.pinned{pins:aO}{σ:St}{H:Hp}{s:Shared}{fp:List Addr}(I:Inv X pins σ H s)(f:∀b∈fp,eE X pins H b)(g:∀b∈fp,∃o,s.heap.get? b=some o/\∀v,o.data≠ .cell v):Inv X (pins++nj fp s.heap) σ H s:=
 I.Ae λp h=>(bF.mp h).elim (λz=>I.pin p (fk _ z)) λz=>by
  obtain⟨a,e⟩:=Ji z;obtain⟨f0,f1,f2,_⟩:=f p.1 a;obtain⟨o,c,d⟩:=g p.1 a;rw[e] at c;cases c;exact⟨e,f0,f1,f2,d⟩
theorem Inv.nM{pins a:aO}{σ:St}{H:Hp}{s:Shared}(I:Inv X (pins++a) σ H s):Inv X pins σ H s:=I.Ae λp b=>I.pin p (fk _ (j4 _ b))
theorem Ks{iter:Expr}{body:List Stmt}{wi:TI}{g:TG}{tb:TS}{pos:Pos}(y:PassesOwn (model X.prog X.w) X.A X.env X.xe)(hc:X.calm=true)(hi:PI X tg iter wi)(U:PG X tg g)(c:cj X body tb)
  (V:∀x,foldedSetIterable iter X.env x=pure x:=by intro _;rfl):PS X (.For tg iter body [] pos) (Mv wi g tb):=by
 intro pins s σ H D I h;refine wpAny_For (aJ (hi pins s σ H _ I h) λv s1 h1=>aJ h1 λY s2 h2=>?_) V;obtain⟨it,fp,P,J,H2,e,Z,T,F,f2,W,⟨m0,w0⟩,turn⟩:=h2;subst e;have j:∀{H':Hp},(∀b∈fp,H' b=none)->∀b∈fp,eE X pins H' b:=λhn b c=>⟨hn b c,(f2 b c).2⟩;refine codeAny_forLoop_any (λn s'=>∃i σ' H',Inv X pins σ' H' s'/\P i s'.heap/\(∀b∈fp,H' b=none)/\W i n σ' H') ?_ m0 ⟨0,σ,H2,Z,F,λb c=>(f2 b c).1,w0⟩;rintro n Q ⟨i,k,E,R,z,B,w3⟩;rcases turn i n k E w3 with⟨stop,qn⟩|⟨go,N,hN,step⟩
 .refine jW y (aJ (T.done X rfl rfl rfl hc i pins Q k E X.xe R (j B) z stop) λr s4 ⟨G,I4⟩=>?_)
  subst G;exact rz ⟨k,E,I4,qn⟩
 .refine jW y (aJ (T.item X rfl rfl rfl hc i pins Q k E X.xe R (j B) z go) λr s4 ⟨u,G,h4⟩=>?_)
  subst G;refine jW y (aJ h4 λ_ s5 ⟨x,S,I5,r5,y5,t,K⟩=>?_);have L:=I5.pinned (j K) (T.obj _ _ t);refine jW y (aJ (U _ s5 k S x u _ L r5 (step x S y5)) λ_ s6 ⟨M,H6,I6,q6⟩=>?_);refine jW y (aJ (c _ s6 M H6 _ I6 q6) λf O q=>?_);have again:∀{a:St} {l:Hp},Inv X (pins++nj fp s5.heap) a l O->N a l->∃m,m<n/\∃i σ' H',Inv X pins σ' H' O/\P i O.heap/\(∀b∈fp,H' b=none)/\W i m σ' H':=λ {a l} p C=>by
   obtain⟨m',hm,w7⟩:=hN a l C;refine⟨m',hm,i+1,a,l,p.nM,T.keep _ _ _ t λb c o e=>(p.pin (b,o) (fk _ (fk _ (pX c e)))).1,λb c=>?_,w7⟩;obtain⟨o,e,d⟩:=T.obj _ _ t b c;exact(p.pin (b,o) (fk _ (fk _ (pX c e)))).2.1
  cases f with
  |next=>obtain⟨a,l,p,C⟩:=q;exact again p C
  |cont=>obtain⟨a,l,p,C⟩:=q;exact again p C
  |brk=>obtain⟨a,l,p,q⟩:=q;exact⟨a,l,p.nM,q⟩
  |ret v=>obtain⟨x7,a,l,p,r7,q⟩:=q;exact⟨x7,a,l,p.nM,r7,q⟩
end
abbrev R2:=V->V->Hp->VK->Prop
def aV(X:Cx)(f:Value->Value->Sem Value)(r:R2):Prop:=
 ∀(pins:aO) (s:Shared) (σ:St) (H:Hp) (x y:V) (v u:Value) (Q:VK),Inv X pins σ H s->RelV x v->RelV y u->r x y H Q->
  wpAny (model X.prog X.w) X.A (f v u) (EP X pins σ Q) X.xe s
def cV(X:Cx)(f:Value)(r:List V->Hp->VK->Prop):Prop:=
 ∀(pins:aO) (s:Shared) (σ:St) (H:Hp) (xs:List V) (us:List Value) (Q:VK),Inv X pins σ H s->Vals xs us->r xs H Q->
  wpAny (model X.prog X.w) X.A (call f us) (EP X pins σ Q) X.xe s
def nH(r:R2)(ta tb:TE):TE:=λσ H Q=>ta σ H λx H1=>tb σ H1 λy H2=>r x y H2 Q
def rI(C:Int->Int->Prop)(g:Int->Int->V):R2:=λx y H Q=>∃i j,x=.int i/\y=.int j/\C i j/\Q (g i j) H
def fT(g:Int->Int->V):R2:=λx y H Q=>∃i j,x=.int i/\y=.int j/\Q (g i j) H
section
variable{X:Cx}{a b c:Expr}{ta tb tc:TE}{pos:Pos}
theorem su(g:PE X a ta)(i:PE X b tb){pins:aO}{s:Shared}{σ:St}{H:Hp}{R:V->V->Hp->Prop}(I:Inv X pins σ H s)
  (h:ta σ H λx H1=>tb σ H1 λy H2=>R x y H2){Q:aF}{f:Value->Value->Sem Value}
  (j:∀v u e x y H2,Inv X pins σ H2 e->RelV x v->RelV y u->R x y H2->wpAny (model X.prog X.w) X.A (f v u) Q X.xe e):
  wpAny (model X.prog X.w) X.A (eval a X.env) (λv c=>wpAny (model X.prog X.w) X.A (eval b X.env) (λu d=>wpAny (model X.prog X.w) X.A (f v u) Q X.xe d) X.xe c) X.xe s:=by
 refine aJ (g pins s σ H _ I h) λv k ⟨x,H1,l,m,n⟩=> ?_
 refine aJ (i pins k σ H1 _ l n) λu e ⟨y,H2,o,p,q⟩=> ?_
 exact j v u e x y H2 o m p q
theorem J2{op:Operator}{r:R2}(c:aV X (binaryOp op) r)(d:PE X a ta)(e:PE X b tb):PE X (.BinOp a op b pos) (nH r ta tb):=by
 intro pins s σ H Q I h;exact wpAny_BinOp (su d e I h λv u f x y H2 g i j q=>c pins f σ H2 x y v u Q g i j q)
theorem uA{f:Value->Value->Sem Value}{C:Int->Int->Prop}{g:Int->Int->Int}
  (rule:∀(i j:Int) (t u:Tok) (s:Shared) (Q:aF) (E:aF),C i j->Q (.int (g i j) s.toks) {s with toks:=s.toks+1}->wpAny (model X.prog X.w) X.A (f (.int i t) (.int j u)) Q E s):
  aV X f (rI C λi j=>.int (g i j)):=by
 intro pins s σ H x y v u Q I a b h;obtain⟨i,j,rfl,rfl,hc,q⟩:=h;obtain⟨t,rfl⟩:=a;obtain⟨t',rfl⟩:=b;exact rule i j t t' s _ _ hc ⟨.int (g i j),H,I.tok _,⟨_,rfl⟩,q⟩
theorem zZ{f:Value->Value->Sem Value}{g:Int->Int->Int}
  (rule:∀(i j:Int) (t u:Tok) (s:Shared) (Q:aF) (E:aF),Q (.int (g i j) s.toks) {s with toks:=s.toks+1}->wpAny (model X.prog X.w) X.A (f (.int i t) (.int j u)) Q E s):
  aV X f (fT λi j=>.int (g i j)):=by
 intro pins s σ H x y v u Q I a b h;obtain⟨i,j,rfl,rfl,q⟩:=h;obtain⟨t,rfl⟩:=a;obtain⟨t',rfl⟩:=b;exact rule i j t t' s _ _ ⟨.int (g i j),H,I.tok _,⟨_,rfl⟩,q⟩
theorem uz{f:Value->Value->Sem Value}{g:Int->Int->Bool}
  (rule:∀(i j:Int) (t u:Tok) (s:Shared) (Q:aF) (E:aF),Q (.bool (g i j)) s->wpAny (model X.prog X.w) X.A (f (.int i t) (.int j u)) Q E s):
  aV X f (fT λi j=>.bl (g i j)):=by
 intro pins s σ H x y v u Q I a b h;obtain⟨i,j,rfl,rfl,q⟩:=h;obtain⟨t,rfl⟩:=a;obtain⟨t',rfl⟩:=b;exact rule i j t t' s _ _ ⟨.bl (g i j),H,I,rfl,q⟩
def vS(i j:Int):Prop:=0<=j/\j<=1000000/\i.natAbs<2 ^ 64
def oh(i j:Int):Prop:=(-(2 ^ 64)<i/\i<2 ^ 64)\/(-(2 ^ 64)<j/\j<2 ^ 64)
theorem oh.ok{i j:Int}(h:oh i j):IntMulOk i j:=by
 rcases h with⟨h1,h2⟩|⟨h1,h2⟩
 .exact .of_left (intBits_le_64 h1 h2)
 .exact .of_right (intBits_le_64 h1 h2)
theorem Jm:aV X (binaryOp .Add) (fT λi j=>.int (i+j)):=zZ λ_ _ _ _ _ _ _ q=>add_int q
theorem JH:aV X (binaryOp .Sub) (fT λi j=>.int (i - j)):=zZ λ_ _ _ _ _ _ _ q=>sub_int q
theorem JC:aV X (binaryOp .Mult) (rI oh λi j=>.int (i*j)):=uA λ_ _ _ _ _ _ _ hc q=>mul_int q hc.ok
theorem JB:aV X (binaryOp .Mod) (rI (λ_ j=>0<j) λi j=>.int (i%j)):=uA λi j _ _ _ _ _ hc q=>by
 have h1:(0:Int)<j:=hc;exact mod_int' (by omega) (by rw[Int.fmod_eq_emod_of_nonneg i (by omega)];exact q)
theorem JG:aV X (binaryOp .Pow) (rI vS λi j=>.int (i ^ j.toNat)):=uA λ_ _ _ _ _ _ _ hc q=>pow_int_small hc.1 hc.2.1 hc.2.2 q
end
def BU:V->V->Bool
 |.aM,.aM=>true|.aM,.int _=>true|.int _,.aM=>true|.aM,.bl _=>true|.bl _,.aM=>true|.aM,.str _=>true|.str _,.aM=>true
 |.int _,.int _=>true|.bl _,.bl _=>true|.str _,.str _=>true|.gg _,.gg _=>true
 |.int _,.str _=>true|.str _,.int _=>true|.bl _,.str _=>true|.str _,.bl _=>true
 |_,_=>false
def uJ:R2:=λx y H Q=>BU x y=true/\Q (.bl (decide (x=y))) H
def uL:R2:=λx y H Q=>BU x y=true/\Q (.bl (!decide (x=y))) H
theorem yf{i j:Int}:decide (V.int i=V.int j)=(i==j):=by
 rw[j3];simp
theorem yd{i j:Bool}:decide (V.bl i=V.bl j)=(i==j):=by
 rw[j3];simp
theorem yg{i j:Str}:decide (V.str i=V.str j)=(i==j):=by
 rw[j3];simp
theorem ye{i j:Array UInt8}:decide (V.gg i=V.gg j)=(i.toList==j.toList):=by
 rw[j3];cases i;cases j;simp
section
variable{X:Cx}{a b c:Expr}{ta tb tc:TE}{pos:Pos}
theorem bI{pins:aO}{σ:St}{H:Hp}{s:Shared}{Q:VK}{k a:Bool}(I:Inv X pins σ H s)(q:Q (.bl k) H)(e:k=a):EP X pins σ Q (.bool a) s:=by
 subst e;exact⟨.bl k,H,I,rfl,q⟩
theorem Jt:aV X (compareOp .Eq) uJ:=by
 intro pins s σ H x y v u Q I c a h;obtain⟨b,q⟩:=h;cases x with
 |aM=>
  cases c;cases y with
  |aM=>cases a;exact PySem.EqNone.eq_none_none (bI I q (by simp))
  |bl j=>cases a;exact PySem.EqNone.eq_none_bool (bI I q (by simp))
  |int j=>obtain⟨t',rfl⟩:=a;exact PySem.EqNone.eq_none_int (bI I q (by simp))
  |str j=>obtain⟨t',rfl⟩:=a;exact PySem.EqNone.eq_none_str (bI I q (by simp))
  |_=>exact absurd (show false=true from b) bR
 |bl i=>
  cases c;cases y with
  |aM=>cases a;exact PySem.EqNone.eq_bool_none (bI I q (by simp))
  |bl j=>cases a;exact eq_bool (bI I q yd)
  |str j=>obtain⟨t',rfl⟩:=a;exact PySem.EqMixed.eq_bool_str (bI I q (by simp))
  |_=>exact absurd (show false=true from b) bR
 |int i=>
  obtain⟨t,rfl⟩:=c;cases y with
  |aM=>cases a;exact PySem.EqNone.eq_int_none (bI I q (by simp))
  |int j=>obtain⟨t',rfl⟩:=a;exact eq_int (bI I q yf)
  |str j=>obtain⟨t',rfl⟩:=a;exact PySem.EqMixed.eq_int_str (bI I q (by simp))
  |_=>exact absurd (show false=true from b) bR
 |str i=>
  obtain⟨t,rfl⟩:=c;cases y with
  |aM=>cases a;exact PySem.EqNone.eq_str_none (bI I q (by simp))
  |bl j=>cases a;exact PySem.EqMixed.eq_str_bool (bI I q (by simp))
  |int j=>obtain⟨t',rfl⟩:=a;exact PySem.EqMixed.eq_str_int (bI I q (by simp))
  |str j=>obtain⟨t',rfl⟩:=a;exact eq_str (bI I q yg)
  |_=>exact absurd (show false=true from b) bR
 |gg i=>
  obtain⟨t,rfl⟩:=c;cases y with
  |gg j=>obtain⟨t',rfl⟩:=a;exact PySem.W.eq_bytes (bI I q ye)
  |_=>exact absurd (show false=true from b) bR
 |_=>cases y<;>exact absurd (show false=true from b) bR
theorem JD:aV X (compareOp .NotEq) uL:=by
 intro pins s σ H x y v u Q I c a h;obtain⟨b,q⟩:=h;cases x with
 |aM=>
  cases c;cases y with
  |aM=>cases a;exact PySem.EqNone.ne_none_none (bI I q (by simp))
  |bl j=>cases a;exact PySem.EqNone.ne_none_bool (bI I q (by simp))
  |int j=>obtain⟨t',rfl⟩:=a;exact PySem.EqNone.ne_none_int (bI I q (by simp))
  |str j=>obtain⟨t',rfl⟩:=a;exact PySem.EqNone.ne_none_str (bI I q (by simp))
  |_=>exact absurd (show false=true from b) bR
 |bl i=>
  cases c;cases y with
  |aM=>cases a;exact PySem.EqNone.ne_bool_none (bI I q (by simp))
  |bl j=>cases a;exact ne_bool (bI I q (cz not yd))
  |str j=>obtain⟨t',rfl⟩:=a;exact PySem.EqMixed.ne_bool_str (bI I q (by simp))
  |_=>exact absurd (show false=true from b) bR
 |int i=>
  obtain⟨t,rfl⟩:=c;cases y with
  |aM=>cases a;exact PySem.EqNone.ne_int_none (bI I q (by simp))
  |int j=>obtain⟨t',rfl⟩:=a;exact ne_int (bI I q (cz not yf))
  |str j=>obtain⟨t',rfl⟩:=a;exact PySem.EqMixed.ne_int_str (bI I q (by simp))
  |_=>exact absurd (show false=true from b) bR
 |str i=>
  obtain⟨t,rfl⟩:=c;cases y with
  |aM=>cases a;exact PySem.EqNone.ne_str_none (bI I q (by simp))
  |bl j=>cases a;exact PySem.EqMixed.ne_str_bool (bI I q (by simp))
  |int j=>obtain⟨t',rfl⟩:=a;exact PySem.EqMixed.ne_str_int (bI I q (by simp))
  |str j=>obtain⟨t',rfl⟩:=a;exact ne_str (bI I q (cz not yg))
  |_=>exact absurd (show false=true from b) bR
 |gg i=>
  obtain⟨t,rfl⟩:=c;cases y with
  |gg j=>obtain⟨t',rfl⟩:=a;exact PySem.W.ne_bytes (bI I q (cz not ye))
  |_=>exact absurd (show false=true from b) bR
 |_=>cases y<;>exact absurd (show false=true from b) bR
theorem Jz:aV X (compareOp .Lt) (fT λi j=>.bl (decide (i<j))):=uz λ_ _ _ _ _ _ _ q=>lt_int q
theorem Jx:aV X (compareOp .LtE) (fT λi j=>.bl (decide (i<=j))):=uz λ_ _ _ _ _ _ _ q=>le_int q
theorem Jv:aV X (compareOp .Gt) (fT λi j=>.bl (decide (j<i))):=uz λ_ _ _ _ _ _ _ q=>gt_int q
theorem JA:aV X (compareOp .Lt) (λx y H Q=>∃i j,x=.str i/\y=.str j/\Q (.bl (decide (i.cps.toList<j.cps.toList))) H):=by
 intro pins s σ H x y v u Q I a b h;obtain⟨i,j,rfl,rfl,q⟩:=h;obtain⟨t,rfl⟩:=a;obtain⟨t',rfl⟩:=b;exact lt_str (bI I q rfl)
theorem aV.or{f:Value->Value->Sem Value}{r r':R2}(h:aV X f r)(h':aV X f r'):aV X f (λx y H Q=>r x y H Q\/r' x y H Q):=by
 intro pins s σ H x y v u Q I a b q;rcases q with q|q
 .exact h pins s σ H x y v u Q I a b q
 .exact h' pins s σ H x y v u Q I a b q
theorem m7(b:Expr){op:CmpOp}(h:op≠ .In:=by decide)(h2:op≠ .NotIn:=by decide):behindInMarks op b=false:=by
 have a:(op==CmpOp.In)=false:=by cases op<;>first|rfl|exact absurd rfl h
 have c:(op==CmpOp.NotIn)=false:=by cases op<;>first|rfl|exact absurd rfl h2
 cases b<;>simp[behindInMarks,a,c]
theorem JS{op:CmpOp}{r:R2}(c:aV X (compareOp op) r)(d:PE X a ta)(e:PE X b tb)(f:behindInMarks op b=false):PE X (.Compare a [op] [b] pos) (nH r ta tb):=by
 intro pins s σ H Q I h;exact wpAny_Compare1 (su d e I h λv u g x y H2 i j k q=>c pins g σ H2 x y v u Q i j k q) f
def vf(t:TE):TT:=λσ H Q=>t σ H λx H'=>∃k,x=.bl k/\Q k H'
theorem KI{op:CmpOp}{r:R2}(d:aV X (compareOp op) r)(f:PE X a ta)(g:PE X b tb)(i:behindInMarks op b=false):PT X (.Compare a [op] [b] pos) (vf (nH r ta tb)):=by
 intro pins s σ H Q I h;refine wpAny_isTrue_Compare1 (aJ (f pins s σ H _ I h) λv j ⟨x,H1,l,m,n⟩=>aJ (g pins j σ H1 _ l n) λu o ⟨y,H2,p,q,t⟩=>
  aJ (d pins o σ H2 x y v u _ p m q t) λc D ⟨z,w,A,B,k,e,C⟩=>?_) i
 subst e;cases B;exact jg ⟨w,A,C⟩
def vd(r r':R2)(ta tb tc:TE):TE:=λσ H Q=>ta σ H λx H1=>tb σ H1 λy H2=>r x y H2 λz H3=>∃k,z=.bl k/\
 (if k=true then tc σ H3 λw' H4=>r' y w' H4 Q else Q (.bl false) H3)
theorem JR{op f:CmpOp}{r r':R2}(n:aV X (compareOp op) r)(g:aV X (compareOp f) r')(o:PE X a ta)(p:PE X b tb)(hc:PE X c tc)
  (q:lastMarks [op,f] [b,c]=false:=by with_unfolding_all rfl):PE X (.Compare a [op,f] [b,c] pos) (vd r r' ta tb tc):=by
 intro pins s σ H Q I h;refine Compare_chain (aJ (o pins s σ H _ I h) λv t ⟨x,H1,w,A,B⟩=>chain_link (aJ (p pins t σ H1 _ w B) λu C ⟨y,H2,D,i,E⟩=>
  aJ (n pins C σ H2 x y v u _ D A i E) λd F ⟨z,j,l,G,k,e,m⟩=>?_)) q
 subst e;cases G;refine jg ?_;cases k with
 |false=>exact ite_ff ⟨.bl false,j,l,rfl,m⟩
 |true=>exact ite_tt (chain_last (aJ (hc pins F σ j _ l m) λJ s4 ⟨K,L,M,N,O⟩=>g pins s4 σ L y K u J Q M i N O))
theorem KH{op f:CmpOp}{r r':R2}(n:aV X (compareOp op) r)(g:aV X (compareOp f) r')(o:PE X a ta)(p:PE X b tb)(hc:PE X c tc)
  (q:lastMarks [op,f] [b,c]=false:=by with_unfolding_all rfl):PT X (.Compare a [op,f] [b,c] pos) (vf (vd r r' ta tb tc)):=by
 intro pins s σ H Q I h;refine isTrue_chain (aJ (o pins s σ H _ I h) λv t ⟨x,H1,w,A,B⟩=>test_link (aJ (p pins t σ H1 _ w B) λu C ⟨y,H2,D,i,E⟩=>
  aJ (n pins C σ H2 x y v u _ D A i E) λd F ⟨z,j,l,G,k,e,m⟩=>?_)) q
 subst e;cases G;refine jg ?_;cases k with
 |false=>
  obtain⟨Y,J,K⟩:=m;cases J;exact ite_ff ⟨j,l,K⟩
 |true=>
  refine ite_tt (test_last (aJ (hc pins F σ j _ l m) λL s4 ⟨M,N,O,P,R⟩=>aJ (g pins s4 σ N y M u L _ O i P R) λd' s5 ⟨Z,S,T,U,k2,V,W⟩=>?_));subst V;cases U;exact jg ⟨S,T,W⟩
theorem N7{κ:Type}{kvs:List (κ×V)}{a:List (κ×Value)}(r:KV kvs a):(!a.isEmpty)= !kvs.isEmpty:=by
 cases r<;>rfl
theorem N8{xs:List V}{its:List Value}(r:Vals xs its):(!its.toArray.isEmpty)= !xs.isEmpty:=by
 cases r<;>simp
theorem mS:(sizeLine:Nat)<2 ^ 63:=by rw[sizeLine_eq];decide
theorem Jo:aV X (binaryOp .Add) (λx y H Q=>∃i j,x=.str i/\y=.str j/\i.length+j.length<=sizeLine/\Q (.str (i++j)) H):=by
 intro pins s σ H x y v u Q I a b h;obtain⟨i,j,rfl,rfl,c,q⟩:=h;obtain⟨t,rfl⟩:=a;obtain⟨t',rfl⟩:=b;exact add_str (λt' tk=>⟨.str (i++j),H,I.tok _,⟨_,rfl⟩,q⟩) c
theorem vals1{x:V}{a:List Value}(r:Vals [x] a):∃u,a=[u]/\RelV x u:=by
 cases r with
 |cons b c=>cases c;exact⟨_,rfl,b⟩
theorem vals2{x y:V}{a:List Value}(r:Vals [x,y] a):∃u b,a=[u,b]/\RelV x u/\RelV y b:=by
 cases r with
 |cons c d=>
  cases d with
  |cons e f=>cases f;exact⟨_,_,rfl,c,e⟩
end
structure rS(h:Heap)(x dx C:Addr)(mA:au):Prop where
 obj:h.get? x=some (instObj C dx)
 ns:h.Ns1 dx mA
 ne:dx≠x
theorem Ii{h:Heap}{dx:Addr}{c:au}(n:h.Ns1 dx c):∃d,h.get? dx=some d/\∀name,lookIn name d=some (c name):=by
 obtain⟨o,es,ep,f,hd,hk,_,g⟩:=n;refine⟨o,f,λname=>?_⟩;have e:=g name;unfold nsFind findBy at e;rw[<-Array.find?_toList] at e;unfold lookIn;rw[hd];dsimp only;split
 .rename_i y q
  rw[q] at e;exact cz some e
 .rename_i q
  rw[q] at e;have a:es.toList.any (·.refKey)=false:=by
   rw[List.any_eq_false];intro y i;obtain⟨z,t,b⟩:=hk y (Array.mem_toList_iff.mp i);simp[DictEntry.refKey,b]
  have j:¬es.toList.any (·.refKey)=true:=by rw[a];exact bR
  rw[av j];exact cz some e
theorem rS.look{h:Heap}{x dx C:Addr}{b:au}(I:rS h x dx C b):∃a,PySem.W.InstAt h x (instObj C dx) C (some a)/\∀name,lookIn name a=some (b name):=
 let ⟨a,c,d⟩:=Ii I.ns
 ⟨a,⟨I.obj,rfl,rfl,c⟩,d⟩
theorem f_.some_of{v:V}{o:Option Value}(r:f_ (some v) o):∃u,o=some u/\RelV v u:=by
 cases o with
 |none=>exact(show False from r).elim
 |some u=>exact⟨u,rfl,r⟩
section
variable{P:Program}{w:World}{H H':Hp}{h h':Heap}{a C dx:Addr}{fs fs':List (Str×V)}
theorem G_(hok:bM P w H h)(e:H a=some (.ins C dx fs)):∃b,rS h a dx C b/\(∀f,f_ (fs.lookup f) (b f))/\PySem.Within b (fs.map (·.1))/\fs.length<=1000/\H dx=some (.own a):=by
 obtain⟨d,z,ne,c,b,n,r,q⟩:=(show bT P w H h a (.ins C dx fs) from hok a _ e);exact⟨b,⟨c,n,ne⟩,r,q,z,d⟩
end
structure rL(K:Frag)(C:Addr):Prop where
 pg:plainGet K C Str.empty=true
 hd:PySem.W.hasDictIn K C=true
 po:PySem.W.plainOver K C=true
 sa:findIn K (.ref C) "__setattr__"=some (some (.builtin "object.__setattr__"))
theorem rL.get{K:Frag}{C:Addr}(c:rL K C)(f:Str):plainGet K C f=true:=c.pg
section
variable{X:Cx}{pins:aO}{σ:St}{H:Hp}{s:Shared}{A:Around}{E:aF}{Q:aF}{c:Value}{b:Bool}
inductive fu(K:Frag)(H:Hp):V->Value->Prop where
 |aM:fu K H .aM (.type "NoneType")
 |bl (x:Bool):fu K H (.bl x) (.type "bool")
 |int (i:Int):fu K H (.int i) (.type "int")
 |str (x:Str):fu K H (.str x) (.type "str")
 |kM (x:UInt64):fu K H (.kM x) (.type "float")
 |lst {a:Addr} {xs:List V} (e:H a=some (.lst xs)):fu K H (.ref a) (.type "list")
 |b5 {a:Addr} {o:Obj} {xs:List V} (e:H a=some (.b5 o (.lst xs))):fu K H (.ref a) (.type "list")
 |tup {a:Addr} {xs:List V} (e:H a=some (.tup xs)):fu K H (.ref a) (.type "tuple")
 |dK {a:Addr} {kvs:List (Key×V)} (e:H a=some (.dK kvs)):fu K H (.ref a) (.type "dict")
 |dT {a:Addr} {kvs:List (List Key×V)} (e:H a=some (.dT kvs)):fu K H (.ref a) (.type "dict")
 |ins {a C dx:Addr} {fs:List (Str×V)} (e:H a=some (.ins C dx fs)) (cl:rL K C) (ha:findIn K (.ref C) "__class__"=some (some (.builtin "object.__class__")))
  (hn:PySem.W.specialIn K (.builtin "object.__class__") "__get__"=some (some (.builtin "getset_descriptor.__get__"))) (htk:PySem.W.takesIn K (.builtin "object.__class__")=some true)
  (hm:PySem.W.mroIn K C (.type "object")=some true):fu K H (.ref a) (.ref C)
theorem Hs{x:V}{u t:Value}(I:Inv X pins σ H s)(d:RelV x u)(ty:fu X.K H x t)(e:kitOne X.K t c=some b)(h:∀tk,Q (.bool b) {s with toks:=tk}):
  wpAny (model X.prog X.w) A (call (.builtin "isinstance") [u,c]) Q E s:=by
 cases ty with
 |aM=>cases (show u=Value.none from d);exact fK PySem.W.kitx_none I.dz True.intro e (λz=>nomatch z) h
 |bl y=>cases (show u=Value.bool y from d);exact fK PySem.W.kitx_bool I.dz True.intro e (λz=>nomatch z) h
 |int i=>obtain⟨t,q⟩:=(show ∃t,u=Value.int i t from d);cases q;exact fK PySem.W.kitx_int I.dz True.intro e (λz=>nomatch z) h
 |str y=>obtain⟨t,q⟩:=(show ∃t,u=Value.str y t from d);cases q;exact fK PySem.W.kitx_str I.dz True.intro e (λz=>nomatch z) h
 |kM y=>obtain⟨t,q⟩:=(show ∃t,u=Value.float y t from d);cases q;exact fK PySem.W.kitx_float I.dz True.intro e (λz=>nomatch z) h
 | @lst a xs f=>
  cases (show u=Value.ref a from d);obtain⟨_,_,n,_,h1⟩:=(show bT X.prog X.w H s.heap a (.lst xs) from I.hok a _ f);exact fK kitx_list I.dz ⟨_,h1,rfl⟩ e (λz=>nomatch z) h
 | @b5 a j xs f=>
  cases (show u=Value.ref a from d);obtain⟨_,_,_,n,_,h1⟩:=(show bT X.prog X.w H s.heap a (.b5 j (.lst xs)) from I.hok a _ f);exact fK kitx_list I.dz ⟨_,h1,rfl⟩ e (λz=>nomatch z) h
 | @tup a xs f=>
  cases (show u=Value.ref a from d);obtain⟨_,_,_,p⟩:=(show bT X.prog X.w H s.heap a (.tup xs) from I.hok a _ f);obtain⟨o,h1,h2,_⟩:=p.is;exact fK kitx_tuple I.dz ⟨o,h1,h2⟩ e (λz=>nomatch z) h
 | @dK a kvs f=>
  cases (show u=Value.ref a from d);obtain⟨_,_,m,_,p⟩:=(show bT X.prog X.w H s.heap a (.dK kvs) from I.hok a _ f);obtain⟨o,es,ep,h1,h2,_⟩:=p;exact fK kitx_dict I.dz ⟨o,h1,h2.1⟩ e (λz=>nomatch z) h
 | @dT a kvs f=>
  cases (show u=Value.ref a from d);obtain⟨_,_,xs,_,o,es,ep,h1,h2,_⟩:=(show bT X.prog X.w H s.heap a (.dT kvs) from I.hok a _ f);exact fK kitx_dict I.dz ⟨o,h1,h2.1⟩ e (λz=>nomatch z) h
 | @ins a C dx fs f cl k hn g l=>
  cases (show u=Value.ref a from d);obtain⟨r,O,_⟩:=G_ I.hok f;obtain⟨v,J,_⟩:=O.look;exact fK (PySem.W.kitx_own (cl.get _) cl.hd k hn g l) I.dz J e (λz=>nomatch z) h
end
structure ck(k:Nat)(A:Around):Prop where
 hd:A.handled=none
 dp:A.depth+3*k+5<recursionLimit
 un:A.units+16*k+200<cLine
theorem ck.mono{j k:Nat}{A:Around}(r:ck k A)(h:j<=k):ck j A:=⟨r.hd,by have:=r.dp;omega,by have:=r.un;omega⟩
theorem ck.deeper{k:Nat}{A:Around}(r:ck (k+1) A)(env:Env):ck k (A.deeper env):=
 ⟨r.hd,by have:=r.dp;show A.depth+1+3*k+5<_;omega,by have:=r.un;show A.units+3+16*k+200<_;omega⟩
theorem ck.depth{k:Nat}{A:Around}(r:ck k A):A.depth<recursionLimit:=by have:=r.dp;omega
theorem ck.units{k:Nat}{A:Around}(r:ck k A):A.units+64<cLine:=by have:=r.un;omega
def ME:TA:=λ_ H Q=>Q [] H
def Ms(ta:TE)(tr:TA):TA:=λσ H Q=>ta σ H λx H1=>tr σ H1 λxs H2=>Q (x::xs) H2
section
variable{X:Cx}{e:Expr}{es:List Expr}{te:TE}{t:TA}{pos:Pos}
theorem z3:PA X [] ME:=λ_ _ _ _ H Q I h=>Calls.spliced_nil ⟨[],H,I,.nil,h⟩
theorem uC(a:PE X e te)(b:PA X es t)(c:starEach (e::es) X.env=(false,eval e X.env)::starEach es X.env:=by rfl):PA X (e::es) (Ms te t):=by
 intro pos pins s σ H Q I h;rw[c];show wpAny _ _ (spliced ((false,eval e X.env)::backTo pos (starEach es X.env))) _ _ s;refine Calls.spliced_cons (aJ (a pins s σ H _ I h) λu d ⟨x,H1,f,g,i⟩=>?_);exact aJ (b pos pins d σ H1 _ f i) λm n ⟨xs,H2,j,k,l⟩=>⟨x::xs,H2,j,.cons g k,l⟩
def MT(t:TA):TE:=λσ H Q=>t σ H λxs H1=>xs.length<=sizeLine/\∀p,H1 p=none->Q (.ref p) (upd H1 p (.tup xs))
def Mz(t:TA):TE:=λσ H Q=>t σ H λxs H1=>xs.length<=sizeLine/\∀p,H1 p=none->Q (.ref p) (upd H1 p (.lst xs))
theorem J5{d}(h:PA X es t):PE X (.Tuple es d pos) (MT t):=by
 intro pins s σ H Q I f;refine wpAny_Tuple_spliced (aJ (h pos pins s σ H _ I f) λg a ⟨xs,H1,c,r,z,q⟩=>⟨by rw[<-r.length];exact z,?_⟩);have i:H1 a.heap.objs.size=none:=c.hok.fresh (aI _);refine⟨.ref a.heap.objs.size,upd H1 a.heap.objs.size (.tup xs),c.laid (t':=a.toks) (λb u e=>bw _ e) (aI _) ?_,rfl,q _ i⟩;exact⟨z,g,r,⟨_,bK _ rfl⟩⟩
theorem JZ(h:PA X es t):PE X (.List es pos) (Mz t):=by
 intro pins s σ H Q I d;refine wpAny_List_spliced (aJ (h pos pins s σ H _ I d) λf a ⟨xs,H1,c,r,z,q⟩=>⟨by rw[<-r.length];exact z,?_⟩);have g:H1 a.heap.objs.size=none:=c.hok.fresh (aI _);refine⟨.ref a.heap.objs.size,upd H1 a.heap.objs.size (.lst xs),c.laid (t':=a.toks) (λb u e=>bw _ e) (aI _) ?_,rfl,q _ g⟩;exact⟨z,f,0,r,bK _ rfl⟩
end
abbrev Sp:=List V->Hp->VK->XK->Prop
abbrev fM:=List Env->Hp->Shared->XK->aF
structure oi(P:Program)(w:World)(K:Frag)(mg:au)(base:Heap)(A:Around)(outer:List Env)(s:Shared)(H:Hp):Prop where
 frames:A.frames=some outer
 mod:Mod K mg base
 bs:∀b o,base.get? b=some o->s.heap.get? b=some o/\H b=none
 jv:base.objs.size<=s.heap.objs.size
 gI:s.heap.FunFrames base outer
 kN:∀b∈frs outer,H b=none
 hok:bM P w H s.heap
 bare:AllBare s.gens
def CE(outer:List Env)(P:Program)(w:World)(H:Hp)(s:Shared)(Q:VK)(u:Value)(s':Shared):Prop:=
 ∃v H',s'.os=s.os/\AllBare s'.gens/\Un (frs outer) [] H H' s.heap s'.heap/\bM P w H' s'.heap/\RelV v u/\Q v H'
def CR(CX:fM)(outer:List Env)(P:Program)(w:World)(H:Hp)(s:Shared)(Q:VK)(E:XK)(r:Result)(s':Shared):Prop:=
 match r with
 |.ok (.ret u)=>CE outer P w H s Q u s'
 |.ok _=>False
 |.error e=>CX outer H s E e s'
structure dH(P:Program)(w:World)(K:Frag)(mg:au)(base:Heap)(CX:fM)(k:Nat)(f:Addr)(fd:FuncData)(ps:List Str)(sp:Sp):Prop where
 len:∀vs H Q E,sp vs H Q E->vs.length=ps.length
 run:∀(A:Around) (outer:List Env) (s:Shared) (H:Hp) (args:Args) (us:List Value) (vs:List V) (Q:VK) (E:XK),ck k A->oi P w K mg base A outer s H->BindsTo s fd args (ps.zip us)->Vals vs us->sp vs H Q E->
  codeAny (model P w) A (.call (.ref f) args) (CR CX outer P w H s Q E) s
theorem dH.mono{P:Program}{w:World}{K:Frag}{mg:au}{base:Heap}{CX:fM}{j k:Nat}{f:Addr}{fd:FuncData}{ps:List Str}{sp:Sp}(F:dH P w K mg base CX j f fd ps sp)(h:j<=k):
 dH P w K mg base CX k f fd ps sp:=⟨F.len,λA outer s H args a b Q E c=>F.run A outer s H args a b Q E (c.mono h)⟩
theorem dH.imp{P:Program}{w:World}{K:Frag}{mg:au}{base:Heap}{CX:fM}{k:Nat}{f:Addr}{fd:FuncData}{ps:List Str}{sp b:Sp}(F:dH P w K mg base CX k f fd ps sp)
  (h:∀a H Q E,b a H Q E->sp a H Q E):dH P w K mg base CX k f fd ps b:=
 ⟨λa H Q E q=>F.len a H Q E (h _ _ _ _ q),λA outer s H args c a Q E d e g i j=>F.run A outer s H args c a Q E d e g i (h _ _ _ _ j)⟩
section
variable{X:Cx}{pins:aO}{σ:St}{H:Hp}{s s':Shared}
theorem Inv.Fo(I:Inv X pins σ H s):oi X.prog X.w X.K X.mg X.base X.A X.stack s H:=
 ⟨I.ok.frames,I.ok.mod,I.bs,cM I.ok.jv I.sz,I.stack,I.u_,I.hok,I.bare⟩
theorem Inv.after{Q:VK}{u:Value}(I:Inv X pins σ H s)(h:CE X.stack X.prog X.w H s Q u s'):EP X pins σ Q u s':=by
 obtain⟨v,H',os,bare,un,hok,r,q⟩:=h;obtain⟨c,g,d,t,a⟩:=s';obtain rfl:a=s.os:=os;exact⟨v,H',I.call (h':=c) (g':=g) (d':=d) (t':=t) (ch:=[]) un hok bare (λb z=>absurd z (by simp)),r,q⟩
end
def Cd(sp:Sp)(i9:List V)(E:XK)(t:TA):TE:=λσ H Q=>t σ H λvs H1=>sp (vs++i9) H1 Q E
def Binds(K:Frag)(fd:FuncData)(ps:List Str)(ds:List Value):Prop:=
 ∀(s:Shared) (us:List Value),K.In s.heap->(us++ds).length=ps.length->BindsTo s fd ⟨us,[]⟩ (ps.zip (us++ds))
theorem Binds.all{K:Frag}{fd:FuncData}{ps:List Str}(h:∀a:List Value,a.length=ps.length->bindArgs fd ⟨a,[]⟩=pure (ps.zip a)):Binds K fd ps []:=λs a _ b=>by
 rw[gW] at b ⊢;exact .of_eq (h a b)
def Passes(CX:fM)(X:Cx)(E:XK):Prop:=∀(pins:aO) (σ:St) (H:Hp) (s:Shared) (e:Value) (s':Shared),Inv X pins σ H s->CX X.stack H s E e s'->X.xe e s'
section
variable{X:Cx}{CX:fM}{k:Nat}{f C:Addr}{fd:FuncData}{ps:List Str}{sp:Sp}{i9:List V}{ds:List Value}{E:XK}{x m:Str}{p pos apos:Pos}{e o:Expr}{es:List Expr}{ta:TE}{t:TA}
theorem K4{pins:aO}{σ:St}{H:Hp}{s:Shared}{Q:VK}{a:List Value}{c:List V}(F:dH X.prog X.w X.K X.mg X.base CX k f fd ps sp)(g:ck k X.A)(i:Binds X.K fd ps ds)(hd:Vals i9 ds)(j:Passes CX X E)
  (I:Inv X pins σ H s)(r:Vals c a)(h:sp (c++i9) H Q E):wpAny (model X.prog X.w) X.A (call (.ref f) a) (EP X pins σ Q) X.xe s:=by
 have d:Vals (c++i9) (a++ds):=r.append hd;have l:(a++ds).length=ps.length:=by rw[<-d.length];exact F.len _ _ _ _ h
 refine wpAny_call (n8 (F.run X.A X.stack s H ⟨a,[]⟩ (a++ds) (c++i9) Q E g I.Fo (i s a I.dz l) d h) λr s' b=>?_);cases r with
 |error e=>exact j pins σ H s e s' I b
 |ok fl=>
  cases fl with
  |ret u=>exact I.after b
  |next=>exact False.elim b
  |brk=>exact False.elim b
  |cont=>exact False.elim b
theorem JO(F:dH X.prog X.w X.K X.mg X.base CX k f fd ps sp)(d:ck k X.A)(g:Gl X x)(i:X.mg x=some (.ref f))(hk:keepIn X.K (.ref f)=true)(j:Binds X.K fd ps ds)(hd:Vals i9 ds)(l:Passes CX X E)
  (m:PA X (e::es) t)(a:(x==("__debug__":Str))=false:=by decide)(n:starEach (e::es) X.env=(false,eval e X.env)::starEach es X.env:=by rfl)(b:(backTo pos (starEach es X.env)).any (·.1)=false:=by rfl):
  PE X (.Call (.Name x p) (e::es) [] pos) (Cd sp i9 E t):=by
 intro pins s σ H Q I h;refine nT (t7 I g i ?_ a);refine PySem.W.callWith_K (h₀:=X.base) I.ok.mod.pP hk (aJ (m pos pins s σ H _ I h) λo u ⟨v,H1,c,r,q⟩=>⟨c.dz,?_⟩) n b;exact K4 F d j hd l c r q
end
structure aR(N P:List Str)(sc:Scope):Prop where
 kind:sc.kind= .function
 co:sc.isCoroutine=false
 gen:sc.isGenerator=false
 nd:N.Nodup
 pre:N.take P.length=P
 par:∀x∈P,sc.names.lookup x=some .local\/sc.names.lookup x=some .cell
 uy:∀y∈sc.names,y.2≠ .free
theorem xD{kindOf:Str->Option NameKind}{x:Str}:∀{binds:List (Str×Value)} {m:au},(∀v,(x,v)∉binds)->bindL kindOf binds m x=m x
 |[],_,_=>rfl
 |(n,v)::r,m,h=>by
  unfold bindL;rw[xD λw a=>h w (bE _ a)];split
  .have:x≠n:=by rintro rfl;exact h v bJ
   simp[this]
  .rfl
theorem xB{kindOf:Str->Option NameKind}{x:Str}:∀{binds:List (Str×Value)} {m:au},(∀v,(x,v)∉binds)->bindC kindOf binds m x=m x
 |[],_,_=>rfl
 |(n,v)::r,m,h=>by
  unfold bindC;rw[xB λw a=>h w (bE _ a)];split
  .rfl
  .have:x≠n:=by rintro rfl;exact h v bJ
   simp[this]
theorem xC{kindOf:Str->Option NameKind}{x:Str}{v:Value}:∀{P:List Str} {a:List Value} {i:Nat} {m:au},P.Nodup->P[i]?=some x->a[i]?=some v->kindOf x=some .local->
  bindL kindOf (P.zip a) m x=some v
 |[],_,_,_,_,h,_,_=>by simp at h
 |_::_,[],_,_,_,_,h,_=>by simp at h
 |p::P,w::a,0,m,nd,h1,h2,hk=>by
  simp at h1 h2;subst h1;subst h2;show bindL kindOf ((p,w)::P.zip a) m p=_;unfold bindL;rw[xD λv b=>(nodup_cons.mp nd).1 (of_mem_zip b).1,ao hk];simp
 |p::P,w::a,i+1,m,nd,h1,h2,hk=>by
  show bindL kindOf ((p,w)::P.zip a) m x=_;unfold bindL;exact xC (i:=i) (nodup_cons.mp nd).2 (by simpa using h1) (by simpa using h2) hk
theorem xA{kindOf:Str->Option NameKind}{x:Str}{v:Value}:∀{P:List Str} {a:List Value} {i:Nat} {m:au},P.Nodup->P[i]?=some x->a[i]?=some v->kindOf x≠some .local->
  bindC kindOf (P.zip a) m x=some v
 |[],_,_,_,_,h,_,_=>by simp at h
 |_::_,[],_,_,_,_,h,_=>by simp at h
 |p::P,w::a,0,m,nd,h1,h2,hk=>by
  simp at h1 h2;subst h1;subst h2;show bindC kindOf ((p,w)::P.zip a) m p=_;unfold bindC;rw[xB λv b=>(nodup_cons.mp nd).1 (of_mem_zip b).1,av hk];simp
 |p::P,w::a,i+1,m,nd,h1,h2,hk=>by
  show bindC kindOf ((p,w)::P.zip a) m x=_;unfold bindC;exact xA (i:=i) (nodup_cons.mp nd).2 (by simpa using h1) (by simpa using h2) hk
def start(N:List Str)(vs:List V):St:=vs.map some++replicate (N.length - vs.length) none
def bL(CX:fM)(P:Program)(w:World)(K:Frag)(mg:au)(base:Heap)(N:List Str)(qual:Str)(scope:Scope)(f:Addr)(cd:Value)(A:Around)(outer:List Env)(s:Shared)(H:Hp)(E:XK):Cx where
 prog:=P
 w:=w
 K:=K
 mg:=mg
 base:=base
 A:=A.deeper (envOfC qual scope s.heap.objs.size f cd)
 N:=N
 s₀:=s
 H₀:=H
 env:=envOfC qual scope s.heap.objs.size f cd
 outer:=outer
 stack:=envOfC qual scope s.heap.objs.size f cd::outer
 ex:=[]
 calm:=true
 fn:=λ_=>true
 pn:=[]
 xe:=λe s'=>wpAny (model P w) (A.deeper (envOfC qual scope s.heap.objs.size f cd)) (leaving (envOfC qual scope s.heap.objs.size f cd) e) (λ_ s''=>CX outer H s E e s'') (λe' s''=>CX outer H s E e' s'') s'
theorem xK{sc:Scope}{n:Nat}{x:Str}(h:sc.names.lookup x=some .cell):∃c,(cellsFrom n sc.names []).lookup x=some c:=by
 have q:=PySem.W.cellsFrom_some sc.names n [] (.inl h);exact Option.isSome_iff_exists.mp q
theorem Hg{CX:fM}{P:Program}{w:World}{K:Frag}{mg:au}{base:Heap}{N ps:List Str}{qual:Str}{scope:Scope}{f:Addr}{cd:Value}{A:Around}{outer:List Env}{s t:Shared}{H:Hp}{E:XK}{o:List Value}{g:List V}
  (S:aR N ps scope)(hd:A.handled=none)(d:oi P w K mg base A outer s H)(G:g.length=ps.length)(r:Vals g o)
  (x:InCallC s s.heap.objs.size (bindL (envOfC qual scope s.heap.objs.size f cd).kindOf (ps.zip o) λ_=>none) (cellsFrom (s.heap.objs.size+1) scope.names []) (bindC (envOfC qual scope s.heap.objs.size f cd).kindOf (ps.zip o) λ_=>none) t):
  Inv (bL CX P w K mg base N qual scope f cd A outer s H E) [] (start N g) H t:=by
 have C:ps.length<=N.length:=by have:=cz List.length S.pre;rw[f6] at this;omega
 obtain⟨h1,tk,rfl,hk⟩:=x.done
 have j:∀b:Addr,b∉(bL CX P w K mg base N qual scope f cd A outer s H E).ex:=λb z=>absurd (show b∈([]:List Addr) from z) (by simp)
 refine⟨⟨d.mod,S.kind,rfl,rfl,aI _,λy z c h1 h2=> ?_,λy hy=> ?_,λy c _ h=> ?_,λ_=>hd,Around.frames_deeper d.frames,.inr ⟨rfl,rfl⟩,λb z=>absurd z (j b),d.bs,d.jv,λb _ _=>j b,λb z=>absurd z (j b),d.gI,d.kN⟩,
  rfl,d.bare,Un.kept hk,⟨_,x.toInCall.ns,λi y v h1 h2 h3=> ?_⟩,λy c h=>⟨_,x.cell y c h⟩,d.hok.fresh (aI _),λy c h=> ?_,λp l=>absurd (show p∈([]:aO) from l) (by simp),d.hok.kept hk,?_⟩
 .exact name_of_addr x.apart (jh h1) (jh h2)
 .have hy:scope.names.lookup y=some .cell\/scope.names.lookup y=some .free:=hy
  rcases hy with hy|hy
  .exact xK hy
  .exact absurd rfl (S.uy _ (jh hy))
 .exact jq (x.above y c (jh h))
 .have hi:i<g.length:=by
   unfold start at h2
   by_cases hi:i<g.length
   .exact hi
   .rw[jZ (by simpa using hi)] at h2
    rw[List.getElem?_replicate] at h2
    split at h2<;>cases h2
  have D:g[i]? =some v:=by
   unfold start at h2
   rw[ic (by simpa using hi),dP] at h2
   cases e:g[i]? with
   |none=>rw[e] at h2;cases h2
   |some a=>rw[e] at h2;cases h2;rfl
  obtain⟨u,B,F⟩:=r.get D
  have l:ps[i]? =some y:=by
   rw[<-S.pre,List.getElem?_take_of_lt (by omega)];exact h1
  have m:ps.Nodup:=by rw[<-S.pre];exact S.nd.sublist (gu _ _)
  refine⟨u,F,?_⟩
  rcases S.par y (vI l) with k|k
  .exact .inl ⟨k,xC m l B k⟩
  .obtain⟨c,e⟩:=xK (n:=s.heap.objs.size+1) k
   refine .inr ⟨.inl k,c,e,?_⟩
   have q:=x.cell y c e
   rw[xA m l B (by show scope.names.lookup y≠_;rw[k];decide)] at q
   exact q
 .exact d.hok.fresh (jq (x.above y c (jh h)))
 .unfold start
  show _=N.length
  rw[b_,bB,List.length_replicate]
  omega
theorem yN{CX:fM}{P:Program}{w:World}{K:Frag}{mg:au}{base:Heap}{k:Nat}{f:Addr}{name qual:Str}{params:Arguments}{body:List Stmt}{scope:Scope}{B kV doc pm a ct F:Value}{an G:Option Addr}
  {l:Array (Option Value)}{N ps:List Str}{sp:Sp}(lk:K.lookup f=some ⟨F,G,.func (fnOf name qual params body scope B kV doc pm an a ct),l⟩)(m:codeIn K a qual=true)(S:aR N ps scope)
  (len:∀c H Q E,sp c H Q E->c.length=ps.length)
  (d:∀(A:Around) (outer:List Env) (s:Shared) (H:Hp) (c:List V) (Q:VK) (E:XK),ck k (A.deeper (envOfC qual scope s.heap.objs.size f a))->sp c H Q E->
   ∃t,cj (bL CX P w K mg base N qual scope f a A outer s H E) body t/\t {nx:=λ_ H'=>Q .aM H',rt:=Q} (start N c) H):
  dH P w K mg base CX (k+1) f (fnOf name qual params body scope B kV doc pm an a ct) ps sp:=by
 refine⟨len,λA outer s H args L c Q E p i M r j=> ?_⟩
 have O:=len _ _ _ _ j
 have C:K.In s.heap:=i.mod.pP.keeps λb o e=>(i.bs b o e).1
 have lim:s.heap.NoLimit:=i.mod.nolimit.keeps λb o e=>(i.bs b o e).1
 have g:∀y∈ps.zip L,scope.names.lookup y.1=some .local\/(scope.names.lookup y.1=some .cell/\((cellsFrom (s.heap.objs.size+1) scope.names []).lookup y.1).isSome=true):=λ⟨n,v⟩ R=>by
  rcases S.par n (of_mem_zip R).1 with q|q
  .exact .inl q
  .exact .inr ⟨q,PySem.W.cellsFrom_some _ _ _ (.inl q)⟩
 refine codeAny_call_function p.depth (C _ _ lk) rfl S.co S.gen rfl (PySem.W.codeRec_of C m) (M _ _ _ _ ?_)
 refine wpAny_newFunctionEnv_cells S.kind g λenv T D x=> ?_
 subst T
 refine⟨lim.keeps x.toInCall.keep,codeAny_func ?_⟩
 obtain⟨t,U,X⟩:=d A outer s H c Q E (p.deeper _) j
 have I:Inv (bL CX P w K mg base N qual scope f a A outer s H E) [] (start N c) H D:=Hg S p.hd i O r x
 refine jV (U [] D (start N c) H _ I X) (λfl s' h=> ?_) λe s' h=>h
 have fin:∀{σ':St} {H':Hp} {v:V} {u:Value},Inv (bL CX P w K mg base N qual scope f a A outer s H E) [] σ' H' s'->RelV v u->Q v H'->CE outer P w H s Q u s':=
  λ {σ' H' v u} J z q=>⟨v,H',J.os,J.bare,J.base,J.hok,z,q⟩
 cases fl with
 |ret u=>
  obtain⟨v,σ',H',J,z,q⟩:=h
  exact fin J z q
 |next=>
  obtain⟨σ',H',J,q⟩:=h
  exact fin (v:=V.aM) (u:=Value.none) J rfl q
 |brk=>
  obtain⟨_,_,_,q⟩:=h
  exact False.elim q
 |cont=>
  obtain⟨_,_,_,q⟩:=h
  exact False.elim q
section
variable{X:Cx}{x:Str}{p pos:Pos}{e:Expr}{es:List Expr}{t:TA}{id T:String}{r:List V->Hp->VK->Prop}
def vc(r:List V->Hp->VK->Prop)(t:TA):TE:=λσ H Q=>t σ H λvs H1=>r vs H1 Q
theorem z_(hc:cV X (.builtin id) r)(c:Gl X x)(d:X.mg x=none)(f:bootBuiltins x=some (.builtin id))(g:PA X (e::es) t)(hn:x≠"__name__":=by decide)(a:(x==("__debug__":Str))=false:=by decide)
  (i:starEach (e::es) X.env=(false,eval e X.env)::starEach es X.env:=by rfl)(b:(backTo pos (starEach es X.env)).any (·.1)=false:=by rfl):PE X (.Call (.Name x p) (e::es) [] pos) (vc r t):=by
 intro pins s σ H Q I h;refine nT (mR I c d f ?_ hn a);exact PyProof.Rows.callWith_builtin1 (aJ (g pos pins s σ H _ I h) λj k ⟨l,H1,m,n,o⟩=>hc pins k σ H1 l j Q m n o) i b
theorem JP(hc:cV X (.type T) r)(c:Gl X x)(d:X.mg x=none)(f:bootBuiltins x=some (.type T))(g:PA X (e::es) t)(hn:x≠"__name__":=by decide)(a:(x==("__debug__":Str))=false:=by decide)
  (i:starEach (e::es) X.env=(false,eval e X.env)::starEach es X.env:=by rfl)(b:(backTo pos (starEach es X.env)).any (·.1)=false:=by rfl):PE X (.Call (.Name x p) (e::es) [] pos) (vc r t):=by
 intro pins s σ H Q I h;refine nT (mR I c d f ?_ hn a);exact PyProof.Rows.callWith_type1 (aJ (g pos pins s σ H _ I h) λj k ⟨l,H1,m,n,o⟩=>hc pins k σ H1 l j Q m n o) i b
end
end L2
end
namespace HT
open PySem PyProof.Rows
section
variable{prog:Program}{w:World}{A:Around}{E:aF}{s:Shared}
theorem DS{t b:Addr}{c ws:List Value}{Q:aF}(p:IsTup s.heap t c.toArray)(q:IsTup s.heap b ws.toArray)(k:c≠[])
  (h1:ws=[]->Q (.ref t) s)(h2:ws≠[]->Q (.ref s.heap.objs.size) {s with heap:=s.heap.push {cls:= .type "tuple",data:= .seq (c++ws).toArray}})
  (j:c.length+ws.length<=sizeLine):wpAny (model prog w) A (binaryOp .Add (.ref t) (.ref b)) Q E s:=by
 obtain⟨⟨cls,dd,data,l⟩,h,hc,n,hd⟩:=id p
 obtain⟨⟨m,d,data2,f⟩,a,g,o,hd2⟩:=id q
 simp only at hc hd g hd2
 subst hc hd g hd2
 have e:c.toArray++ws.toArray=(c++ws).toArray:=by simp
 by_cases i:ws=[]
 .exact concat_meets ⟨_,h,rfl⟩ ⟨_,a,rfl⟩ noFill_tuple_add seq_tuple_add slot_tuple_add entry_tuple_add (args_tuple_add_2 _ _)
   (tuple_addW1 t b c.toArray ws.toArray n o dd d l f (by simpa using k) (by simp[i])) ⟨h,a,h1 i⟩
 .refine concat_meets ⟨_,h,rfl⟩ ⟨_,a,rfl⟩ noFill_tuple_add seq_tuple_add slot_tuple_add entry_tuple_add (args_tuple_add_2 _ _)
   (tuple_addW2 t b c.toArray ws.toArray n o dd d l f (by simpa using k) (by simpa using i) (by rw[bY,bY];exact j)) ⟨h,a,?_⟩
  rw[e]
  exact h2 i
def aP(n d:Nat):Option Int->Nat
 |none=>d
 |some v=>if v<0 then (v+(n:Int)).toNat else min v.toNat n
theorem K9(n d:Nat)(hd:d<=n)(o:Option Int):aP n d o<=n:=by
 cases o with
 |none=>exact hd
 |some v=>
  show(if v<0 then (v+(n:Int)).toNat else min v.toNat n)<=n;by_cases a:v<0
  .rw[ao a];omega
  .rw[av a];exact Nat.min_le_right _ _
theorem xM(v:Int)(n d:Nat):(if v<0 then max (v+(n:Int)) 0 else min v (n:Int))=((aP n d (some v):Nat):Int):=by
 show(if v<0 then max (v+(n:Int)) 0 else min v (n:Int))=(((if v<0 then (v+(n:Int)).toNat else min v.toNat n):Nat):Int);by_cases a:v<0
 .simp only[ao a];omega
 .simp only[av a];omega
theorem Dm(lo hi:Option Int)(n:Nat):Builtin.Slice.sliceAdjust lo hi 1 (n:Int)=(((aP n 0 lo:Nat):Int),((aP n n hi:Nat):Int)):=by
 have h1:¬((1:Int)<0):=by omega
 unfold Builtin.Slice.sliceAdjust;simp only[h1,dQ];refine Prod.ext ?_ ?_
 .cases lo with
  |none=>rfl
  |some v=>exact xM v n 0
 .cases hi with
  |none=>rfl
  |some v=>exact xM v n n
theorem Ke(i j:Nat):Builtin.Slice.slicePlaces (i:Int) (j:Int) 1=j - i:=by
 unfold Builtin.Slice.slicePlaces;have h1:(1:Int)>0:=by omega
 simp only[h1,gx,Int.ediv_one];split<;>omega
theorem BW{v:Value}{o:Option Int}{Q:Option Int->Shared->Prop}(p:IsPart v o)(h:Q o s):wpAny (model prog w) A (Builtin.Slice.slicePartIndex v) Q E s:=by
 cases p with
 |none=>exact slicePart_none h
 |int i t=>exact slicePart_int h
theorem LY{e:Addr}{c d:Value}{lo hi:Option Int}{n:Nat}{Q:Int×Int×Nat->Shared->Prop}(f:s.heap.IsSliceOf e c d .none)(g:IsPart c lo)(pu:IsPart d hi)
  (h:Q (((aP n 0 lo:Nat):Int),1,aP n n hi - aP n 0 lo) s):wpAny (model prog w) A (Builtin.Slice.sliceApplied (.ref e) (pure (n:Int))) Q E s:=by
 obtain⟨os,a,i,b⟩:=id f;unfold Builtin.Slice.sliceApplied Builtin.Slice.sliceFields;refine ah (ah (wpAny_field a b (x:=c) rfl (ah (wpAny_field a b (x:=d) rfl (ah (wpAny_field a b (x:=.none) rfl (aB ?_)))))));refine ah (slicePart_none ?_);show wpAny _ _ (if ((1:Int)==0)=true then _ else _) _ _ s;rw[av (by decide)];refine ah (BW g (ah (BW pu (ah (aB ?_)))));show wpAny _ _ (match Builtin.Slice.sliceAdjust lo hi 1 (n:Int) with|(lo,hi)=>pure (lo,(1:Int),Builtin.Slice.slicePlaces lo hi 1)) _ _ s;rw[Dm lo hi n];show wpAny _ _ (pure (((aP n 0 lo:Nat):Int),(1:Int),Builtin.Slice.slicePlaces ((aP n 0 lo:Nat):Int) ((aP n n hi:Nat):Int) 1)) _ _ s;rw[Ke];exact aB h
theorem J'(xs:Array Value)(i k:Nat):((range k).filterMap λ(m:Nat)=>xs[((i:Int)+(m:Int)*1).toNat]?).toArray=((xs.toList.drop i).take k).toArray:=by
 have e:(λ(m:Nat)=>xs[((i:Int)+(m:Int)*1).toNat]?)=λm=>xs[i+m]? :=by
  funext m;have:((i:Int)+(m:Int)*1).toNat=i+m:=by omega
  rw[this]
 rw[e];have:=pick_run xs i k;rw[List.filterMap_map] at this;have a:((λx=>xs[x]?)∘λx=>i+x)=λm=>xs[i+m]? :=rfl;rw[a] at this;rw[this]
theorem GN{t c:Addr}{items:Array Value}{i j:Value}{lo hi:Option Int}{Q:aF}(b:IsTup s.heap t items)(k:s.heap.IsSliceOf c i j .none)(l:IsPart i lo)(pu:IsPart j hi)
  (n:¬(aP items.size 0 lo=0/\aP items.size items.size hi=items.size))
  (h:Q (.ref s.heap.objs.size) {s with heap:=s.heap.push {cls:= .type "tuple",data:= .seq ((items.toList.drop (aP items.size 0 lo)).take (aP items.size items.size hi - aP items.size 0 lo)).toArray}})
  (o:items.size<=sizeLine):wpAny (model prog w) A (getItem (.ref t) (.ref c)) Q E s:=by
 have a:sizeOk (.seq ((items.toList.drop (aP items.size 0 lo)).take (aP items.size items.size hi - aP items.size 0 lo)).toArray):=by
  show((items.toList.drop (aP items.size 0 lo)).take (aP items.size items.size hi - aP items.size 0 lo)).toArray.size<=sizeLine
  rw[bY,f6,f5,bH]
  omega
 have r:aP items.size items.size hi<=items.size:=K9 _ _ (aI _) hi
 obtain⟨os,d,e,p⟩:=id k
 have f:s.TypeIs (.ref c) "slice":=⟨os,d,e⟩
 unfold getItem
 try with_reducible refine fY ?_
 first|refine ah (aB ?_)|skip
 refine ah (wpAny_sequenceKey b.typeIs (by decide) ?_)
 refine ah (nV (name:=Str.ofString "__getitem__") b.typeIs vB
  (iP vB b.typeIs entry_tuple_getitem ?_ (args_tuple_getitem _ _)))
 show wpAny _ _ (Builtin.Tuple.tupleItemsOf (.ref t)>>=_) _ _ s
 refine ah (tupleItemsOf_ b ?_)
 refine ah (lN f ?_)
 rw[ao (by decide)]
 refine ah (LY k l pu ?_)
 have g:¬((((aP items.size 0 lo:Nat):Int)==0&&(1:Int)==1&&(aP items.size items.size hi - aP items.size 0 lo)==items.size)=true):=by
  intro q
  rw[bZ,bZ] at q
  have u:((aP items.size 0 lo:Nat):Int)=0:=g_ q.1.1
  have v:aP items.size items.size hi - aP items.size 0 lo=items.size:=g_ q.2
  exact n ⟨by omega,by omega⟩
 show wpAny _ _ (if (((aP items.size 0 lo:Nat):Int)==0&&(1:Int)==1&&(aP items.size items.size hi - aP items.size 0 lo)==items.size)=true then _ else _) _ _ s
 rw[av g,J']
 first
  |exact ah (m:=Builtin.Tuple.tupleExact _) (eu (aB ⟨_,rfl,aB h⟩) a)
  |exact ah (m:=Builtin.Tuple.tupleExact _) (eu (ah (aB (aB ⟨_,rfl,aB h⟩))) a)
  |exact ah (ah (m:=Builtin.Tuple.tupleExact _) (eu (aB (aB ⟨_,rfl,aB h⟩)) a))
  |exact ah (ah (m:=Builtin.Tuple.tupleExact _) (eu (aB ⟨_,rfl,aB h⟩) a))
end
end HT
section
open PySem PySem.Spec PyProof.Rows
namespace L2
abbrev TO:=St->Hp->(Option Int->Hp->Prop)->Prop
def PO(X:Cx)(e:Option Expr)(t:TO):Prop:=
 ∀(pins:aO) (s:Shared) (σ:St) (H:Hp) (Q:Option Int->Hp->Prop),Inv X pins σ H s->t σ H Q->
  wpAny (model X.prog X.w) X.A (evalPart e X.env) (λu s'=>∃o H',Inv X pins σ H' s'/\IsPart u o/\Q o H') X.xe s
def MF:TO:=λ_ H Q=>Q none H
def MN(t:TE):TO:=λσ H Q=>t σ H λx H1=>∃i,x=.int i/\Q (some i) H1
section
variable{X:Cx}{e:Expr}{te:TE}{lo hi:Option Expr}{tl th:TO}{pos p2:Pos}
theorem Kg:PO X none MF:=by
 intro pins s σ H Q I h;rw[evalPart_none];exact aB ⟨none,H,I,.none,h⟩
theorem Kh(h:PE X e te):PO X (some e) (MN te):=by
 intro pins s σ H Q I a;rw[evalPart_some];refine aJ (h pins s σ H _ I a) λu f ⟨x,H1,b,c,d⟩=>?_;obtain⟨i,rfl,q⟩:=d;obtain⟨t,rfl⟩:=c;exact⟨some i,H1,b,.int i t,q⟩
def iV(X:Cx)(r:V->Option Int->Option Int->Hp->VK->Prop):Prop:=
 ∀(pins:aO) (s:Shared) (σ:St) (H:Hp) (x:V) (v vl vu:Value) (lo hi:Option Int) (sl:Addr) (Q:VK),Inv X pins σ H s->RelV x v->s.heap.IsSliceOf sl vl vu .none->IsPart vl lo->IsPart vu hi->r x lo hi H Q->
  ∃T id,typeLookup (.type T) "__getitem__"=pure (some (.builtin id))/\s.TypeIs v T/\wpAny (model X.prog X.w) X.A (getItem v (.ref sl)) (EP X pins σ Q) X.xe s
theorem iV.or{r r':V->Option Int->Option Int->Hp->VK->Prop}(h:iV X r)(h':iV X r'):iV X (λx lo hi H Q=>r x lo hi H Q\/r' x lo hi H Q):=by
 intro pins s σ H x v a b lo hi c Q I d e f pu q;rcases q with q|q
 .exact h pins s σ H x v a b lo hi c Q I d e f pu q
 .exact h' pins s σ H x v a b lo hi c Q I d e f pu q
def MR(r:V->Option Int->Option Int->Hp->VK->Prop)(te:TE)(tl th:TO):TE:=λσ H Q=>te σ H λx H1=>tl σ H1 λl H2=>th σ H2 λu H3=>r x l u H3 Q
theorem Ab{r:V->Option Int->Option Int->Hp->VK->Prop}(g:iV X r)(i:PE X e te)(j:PO X lo tl)(k:PO X hi th):PE X (.Subscript e (.Slice lo hi none p2) pos) (MR r te tl th):=by
 intro pins s σ H Q I h;refine Subscript_ (aJ (i pins s σ H _ I h) λv m ⟨x,H1,n,o,p⟩=>?_);refine wpAny_Slice (aJ (j pins m σ H1 _ n p) λc t ⟨l,H2,y,z,B⟩=>aJ (k pins t σ H2 _ y B) λd a ⟨u,f,C,pu,D⟩=>?_);rw[evalPart_none];refine aB ?_;have E:Inv X pins σ f {a with heap:=a.heap.push {cls:=.type "slice",data:=.fields #[c,d,.none]}}:=C.kept (t':=a.toks) λb K q=>bw _ q;obtain⟨T,id,F,G,J⟩:=g pins {a with heap:=a.heap.push {cls:=.type "slice",data:=.fields #[c,d,.none]}} σ f x v c d l u a.heap.objs.size Q E o (Heap.IsSliceOf.new ..) z pu D;show wpAny (model X.prog X.w) X.A (subscriptTail e (.Slice lo hi none p2) v (.ref a.heap.objs.size)) (EP X pins σ Q) X.xe {a with heap:=a.heap.push {cls:=.type "slice",data:=.fields #[c,d,.none]}};exact tail_any (ops:=[.ref a.heap.objs.size,v]) G F J (by with_unfolding_all rfl)
def iZ(xs:List V)(lo hi:Option Int):List V:=(xs.drop (HT.aP xs.length 0 lo)).take (HT.aP xs.length xs.length hi - HT.aP xs.length 0 lo)
theorem xT(xs:List V)(lo hi:Option Int):(iZ xs lo hi).length<=xs.length:=by
 unfold iZ;rw[f6,f5];omega
def KY(K:Frag):V->Option Int->Option Int->Hp->VK->Prop:=λx lo hi H Q=>∃a xs,x=.ref a/\bf K H a xs/\
 ¬(HT.aP xs.length 0 lo=0/\HT.aP xs.length xs.length hi=xs.length)/\∀p,H p=none->Q (.ref p) (upd H p (.tup (iZ xs lo hi)))
theorem LX:iV X (KY X.K):=by
 intro pins s σ H x v l m lo hi n Q I f g i pu h;obtain⟨a,xs,rfl,j,k,q⟩:=h;cases f;obtain⟨its,r,d,e⟩:=I.tuple j;have c:its.toArray.size=xs.length:=by rw[bY];exact r.length.symm
 refine⟨"tuple",_,vB.lookup,d.typeIs,?_⟩;refine HT.GN d g i pu (by rw[c];exact k) ?_ (by rw[c];exact e);rw[c];refine⟨.ref s.heap.objs.size,_,I.laid (t':=s.toks) (o:=.tup (iZ xs lo hi)) (λb p q=>bw _ q) (aI _) ?_,rfl,q _ (I.hok.fresh (aI _))⟩;exact⟨cM (xT xs lo hi) e,_,(r.drop (HT.aP xs.length 0 lo)).take (HT.aP xs.length xs.length hi - HT.aP xs.length 0 lo),iW.new _ _⟩
def KR(K:Frag):R2:=λx y H Q=>∃a b xs ys,x=.ref a/\y=.ref b/\bf K H a xs/\bf K H b ys/\xs≠[]/\xs.length+ys.length<=sizeLine/\
 (ys=[]->Q (.ref a) H)/\(ys≠[]->∀p,H p=none->Q (.ref p) (upd H p (.tup (xs++ys))))
theorem Vals.ux{xs:List V}{a:List Value}(r:Vals xs a):a=[]↔xs=[]:=by
 cases r with
 |nil=>simp
 |cons _ _=>simp
theorem Jr:aV X (binaryOp .Add) (KR X.K):=by
 intro pins s σ H x y v u Q I g i h;obtain⟨a,b,xs,ys,rfl,rfl,j,k,l,e,m,n⟩:=h;cases g;cases i;obtain⟨its,d,p,_⟩:=I.tuple j;obtain⟨f,c,p2,_⟩:=I.tuple k;refine HT.DS p p2 (λz=>l (d.ux.mp z)) (λz=>⟨.ref a,H,I,rfl,m (c.ux.mp z)⟩) (λz=>?_) (by rw[<-d.length,<-c.length];exact e);refine⟨.ref s.heap.objs.size,_,I.laid (t':=s.toks) (o:=.tup (xs++ys)) (λb r q=>bw _ q) (aI _) ?_,rfl,n (λw=>z (c.ux.mpr w)) _ (I.hok.fresh (aI _))⟩;exact⟨by rw[b_];exact e,_,d.append c,iW.new _ _⟩
end
def iF(n:Nat)(i:Int):Option Nat:=if 0<=i then (if i<n then some i.toNat else none) else if -(n:Int)<=i then some (i+n).toNat else none
def bU{α:Type}(xs:List α)(i:Int):Option α:=(iF xs.length i).bind λj=>xs[j]?
theorem Hx{n:Nat}{i:Int}{j:Nat}(h:iF n i=some j):seqIndex? i n=some j/\j<n/\-(n:Int)<=i/\i<n:=by
 unfold iF at h;by_cases h0:0<=i
 .rw[ao h0] at h
  by_cases h1:i<n
  .rw[ao h1] at h
   have e:i.toNat=j:=Option.some.inj h;exact⟨by rw[seqIndex_of h0 h1,e],by omega,by omega,h1⟩
  .rw[av h1] at h;cases h
 .rw[av h0] at h
  by_cases h1: -(n:Int)<=i
  .rw[ao h1] at h
   have e:(i+n).toNat=j:=Option.some.inj h;exact⟨by rw[seqIndex_neg (by omega) h1,e],by omega,h1,by omega⟩
  .rw[av h1] at h;cases h
theorem sj{α:Type}{xs:List α}{i:Int}{v:α}(h:bU xs i=some v):∃j,seqIndex? i xs.length=some j/\xs[j]?=some v/\j<xs.length/\-(xs.length:Int)<=i/\i<xs.length:=by
 unfold bU at h;cases e:iF xs.length i with
 |none=>rw[e] at h;cases h
 |some j=>
  rw[e] at h;obtain⟨h1,h2,h3,a⟩:=Hx e;exact⟨j,h1,h,h2,h3,a⟩
theorem xw{α:Type}{xs:List α}{j:Nat}{v:α}(h:xs[j]?=some v):bU xs (j:Int)=some v:=by
 have a:j<xs.length:=(cT.mp h).1;have e:iF xs.length (j:Int)=some j:=by
  unfold iF;rw[ao (by omega),ao (by omega)];simp
 unfold bU;rw[e];exact h
def rT(b:Expr):Prop:=∀o i,subscripted b false o i=operate [o,i] (getItem o i)
def f9(X:Cx)(r:R2):Prop:=
 ∀(value slice:Expr) (pins:aO) (s:Shared) (σ:St) (H:Hp) (x y:V) (v u:Value) (Q:VK),Inv X pins σ H s->RelV x v->RelV y u->r x y H Q->
  subscripted slice false v u=operate [v,u] (getItem v u)->wpAny (model X.prog X.w) X.A (subscriptTail value slice v u) (EP X pins σ Q) X.xe s
def rR(X:Cx)(id:String)(r:V->List V->Hp->VK->Prop):Prop:=
 ∀(pins:aO) (s:Shared) (σ:St) (H:Hp) (x:V) (xs:List V) (v:Value) (us:List Value) (Q:VK),Inv X pins σ H s->RelV x v->Vals xs us->r x xs H Q->
  wpAny (model X.prog X.w) X.A (call (.builtin id) (v::us)) (EP X pins σ Q) X.xe s
section
variable{X:Cx}{a b:Expr}{ta tb:TE}{pos:Pos}
theorem f9.or{r r':R2}(h:f9 X r)(h':f9 X r'):f9 X (λx y H Q=>r x y H Q\/r' x y H Q):=by
 intro value slice pins s σ H x y v u Q I a b q c;rcases q with q|q
 .exact h value slice pins s σ H x y v u Q I a b q c
 .exact h' value slice pins s σ H x y v u Q I a b q c
theorem JX{r:R2}(c:f9 X r)(d:PE X a ta)(e:PE X b tb)(f:rT b):PE X (.Subscript a b pos) (nH r ta tb):=by
 intro pins s σ H Q I h;exact Subscript_ (su d e I h λv u g x y H2 i j k q=>c a b pins g σ H2 x y v u Q i j k q (f _ _))
def Aw(K:Frag):R2:=λx y H Q=>∃p xs i v,x=.ref p/\y=.int i/\aZ K H p xs/\bU xs i=some v/\Q v H
def Ay(K:Frag):R2:=λx y H Q=>∃p xs i v,x=.ref p/\y=.int i/\bf K H p xs/\bU xs i=some v/\Q v H
def Ax:R2:=λx y H Q=>∃z i c,x=.str z/\y=.int i/\z.length<=sizeLine/\bU z.cps.toList i=some c/\Q (.str ⟨#[c]⟩) H
theorem Hz:f9 X (Aw X.K):=by
 intro value slice pins s σ H x y v u Q I f g h d;obtain⟨p,xs,i,z,rfl,rfl,k,l,q⟩:=h;cases f;obtain⟨t,rfl⟩:=g;obtain⟨its,r,a,A⟩:=I.list k;obtain⟨j,h1,h2,h3,m,n⟩:=sj l;obtain⟨w,e,b⟩:=r.get h2;have o:=r.length;have hn:=mS;have fin:EP X pins σ Q w s:=⟨z,H,I,b,q⟩;by_cases h0:0<=i
 .have c:i.toNat=j:=by
   rw[seqIndex_of h0 n] at h1;exact Option.some.inj h1
  exact item_listR a.isList h0 (by omega) (by rw[c];simpa using e) fin d
 .have c:(i+(its.toArray.size:Int)).toNat=j:=by
   rw[seqIndex_neg (by omega) m] at h1;rw[bY,<-o];exact Option.some.inj h1
  exact subscriptTail_builtinR (x:=w) a.isList.typeIs slot_list_getitem.lookup
   (wpAny_getItem_list_neg (Q:=λr s'=>r=w/\EP X pins σ Q r s') a.isList (by omega) (by rw[bY]<;>omega) (by omega) (by rw[c];simpa using e) ⟨rfl,fin⟩) d
theorem HD:f9 X (Ay X.K):=by
 intro value slice pins s σ H x y v u Q I c d h e;obtain⟨p,xs,i,z,rfl,rfl,f,g,q⟩:=h;cases c;obtain⟨t,rfl⟩:=d;obtain⟨its,r,b,m⟩:=I.tuple f;obtain⟨j,h1,h2,h3,n,o⟩:=sj g;obtain⟨w,k,a⟩:=r.get h2;have l:=r.length;have hn:=mS;have fin:EP X pins σ Q w s:=⟨z,H,I,a,q⟩;exact subscriptTail_builtinR (x:=w) b.typeIs slot_tuple_getitem.lookup
  (getItem_tuple (j:=j) (Q:=λr s'=>r=w/\EP X pins σ Q r s') b (by omega) (by omega) (by rw[bY,<-l];exact h1) (by simpa using k) ⟨rfl,fin⟩) e
theorem HC:f9 X Ax:=by
 intro value slice pins s σ H x y v u Q I a b h d;obtain⟨z,i,c,rfl,rfl,n,e,q⟩:=h;obtain⟨t,rfl⟩:=a;obtain⟨t',rfl⟩:=b;obtain⟨j,h1,h2,h3,f,g⟩:=sj e;have k:z.cps.toList.length=z.length:=by simp[Str.length]
 rw[k] at h1 f g;have hn:=mS;exact tail_any (jU s z t) slot_str_getitem.lookup (getItem_str (c:=c) (by
  have l:decide (i< -(2 ^ 63:Int))=false:=dg (by omega);have m:decide (i≥2 ^ 63)=false:=dg (by omega);rw[l,m,Bool.or_false]) (by rw[h1];simpa using h2) ⟨.str ⟨#[c]⟩,H,I.tok _,⟨_,rfl⟩,q⟩) d
def As(K:Frag):R2:=λx y H Q=>Aw K x y H Q\/Ay K x y H Q\/Ax x y H Q
theorem HB:f9 X (As X.K):=Hz.or (HD.or HC)
theorem L0(lo hi:Option Int)(n:Nat):(sliceBounds lo hi none n).1=((HT.aP n 0 lo:Nat):Int)/\(sliceBounds lo hi none n).2.1=((HT.aP n n hi:Nat):Int)/\(sliceBounds lo hi none n).2.2=1:=by
 refine⟨?_,?_,rfl⟩
 .cases lo with
  |none=>simp[sliceBounds,HT.aP]
  |some i=>
   simp only[sliceBounds,HT.aP,getD_none,show(1:Int)>0 by decide,gx];by_cases h:i<0
   .simp only[h,gx]<;>omega
   .simp only[h,dQ]<;>omega
 .cases hi with
  |none=>simp[sliceBounds,HT.aP]
  |some i=>
   simp only[sliceBounds,HT.aP,getD_none,show(1:Int)>0 by decide,gx];by_cases h:i<0
   .simp only[h,gx]<;>omega
   .simp only[h,dQ]<;>omega
theorem LZ(its:List Value)(lo hi:Option Int):slicePick its.toArray lo hi none=((its.drop (HT.aP its.length 0 lo)).take (HT.aP its.length its.length hi - HT.aP its.length 0 lo)).toArray:=by
 obtain⟨h1,h2,h3⟩:=L0 lo hi its.toArray.size;unfold slicePick;rw[h1,h2,h3];simp only[sliceRange_one,pick_run,bY]<;>rfl
def KU(K:Frag):V->Option Int->Option Int->Hp->VK->Prop:=λx lo hi H Q=>∃a xs,x=.ref a/\aZ K H a xs/\∀p,H p=none->Q (.ref p) (upd H p (.lst (iZ xs lo hi)))
theorem LU:iV X (KU X.K):=by
 intro pins s σ H x v k l lo hi m Q I e f g pu h;obtain⟨a,xs,rfl,i,q⟩:=h;cases e;obtain⟨its,r,d,j⟩:=I.list i;have c:=r.length;refine⟨"list",_,slot_list_getitem.lookup,d.isList.typeIs,?_⟩;refine wpAny_getItem_list_slice d.isList f g pu .none (by simp) ?_ (by rw[bY]<;>omega);rw[LZ,<-c];refine⟨.ref s.heap.objs.size,_,I.laid (t':=s.toks) (o:=.lst (iZ xs lo hi)) (λb n q=>bw _ q) (aI _) ?_,rfl,q _ (I.hok.fresh (aI _))⟩;exact⟨cM (xT xs lo hi) j,_,0,(r.drop (HT.aP xs.length 0 lo)).take (HT.aP xs.length xs.length hi - HT.aP xs.length 0 lo),bK _ rfl⟩
def gH:V->Bool
 |.aM=>true
 |.bl _=>true
 |.int _=>true
 |.str _=>true
 |_=>false
def fP:V->V->Bool
 |.aM,.aM=>true
 |.bl a,.bl b=>a==b
 |.bl a,.int b=>(if a then 1 else 0)==b
 |.int a,.bl b=>a==(if b then 1 else 0)
 |.int a,.int b=>a==b
 |.str a,.str b=>a==b
 |_,_=>false
theorem Fp{A:Around}{s:Shared}{y x:V}{u v:Value}(d:RelV y u)(c:RelV x v)(e:gH y=true)(fx:gH x=true):SeqAt.EqAt A s u v (fP y x):=by
 cases y with
 |aM=>
  cases d;cases x with
  |aM=>cases c;exact SeqAt.EqAt.same _
  |bl b=>cases c;exact SeqAt.EqAt.none_bool b
  |int b=>obtain⟨t,rfl⟩:=c;exact SeqAt.EqAt.none_int b t
  |str b=>obtain⟨t,rfl⟩:=c;exact SeqAt.EqAt.none_str b t
  |_=>exact absurd (show false=true from fx) bR
 |bl a=>
  cases d;cases x with
  |aM=>cases c;exact SeqAt.EqAt.bool_none a
  |bl b=>cases c;exact SeqAt.EqAt.bool_bool a b
  |int b=>obtain⟨t,rfl⟩:=c;exact SeqAt.EqAt.bool_int a b t
  |str b=>obtain⟨t,rfl⟩:=c;exact SeqAt.EqAt.bool_str a b t
  |_=>exact absurd (show false=true from fx) bR
 |int a=>
  obtain⟨t',rfl⟩:=d;cases x with
  |aM=>cases c;exact SeqAt.EqAt.int_none a t'
  |bl b=>cases c;exact SeqAt.EqAt.int_bool a t' b
  |int b=>obtain⟨t,rfl⟩:=c;exact SeqAt.EqAt.int_int a t' b t
  |str b=>obtain⟨t,rfl⟩:=c;exact SeqAt.EqAt.int_str a t' b t
  |_=>exact absurd (show false=true from fx) bR
 |str a=>
  obtain⟨t',rfl⟩:=d;cases x with
  |aM=>cases c;exact SeqAt.EqAt.str_none a t'
  |bl b=>cases c;exact SeqAt.EqAt.str_bool a t' b
  |int b=>obtain⟨t,rfl⟩:=c;exact SeqAt.EqAt.str_int a t' b t
  |str b=>obtain⟨t,rfl⟩:=c;exact SeqAt.EqAt.str_str a t' b t
  |_=>exact absurd (show false=true from fx) bR
 |_=>exact absurd (show false=true from e) bR
def iA(x:V)(u:Value):Bool:=match u with
 |.none=>fP .aM x
 |.bool b=>fP (.bl b) x
 |.int i _=>fP (.int i) x
 |.str z _=>fP (.str z) x
 |_=>false
theorem yE{x y:V}{u:Value}(r:RelV y u)(f:gH y=true):iA x u=fP y x:=by
 cases y with
 |aM=>cases r;rfl
 |bl b=>cases r;rfl
 |int i=>obtain⟨t,rfl⟩:=r;rfl
 |str z=>obtain⟨t,rfl⟩:=r;rfl
 |_=>exact absurd (show false=true from f) bR
theorem sf{x:V}:∀{xs:List V} {a:List Value},Vals xs a->xs.all gH=true->a.any (iA x)=xs.any λy=>fP y x
 |_,_,.nil,_=>rfl
 |y::xs,u::a,.cons r t,f=>by
  rw[List.all_cons,bZ] at f;rw[any_cons,any_cons,yE r f.1,sf t f.2]
theorem ur{A:Around}{s:Shared}{x:V}{v:Value}(b:RelV x v)(fx:gH x=true):∀{xs:List V} {a:List Value},Vals xs a->xs.all gH=true->∀u∈a,SeqAt.EqAt A s u v (iA x u)
 |_,_,.nil,_=>λu hu=>by cases hu
 |y::xs,u::a,.cons r t,f=>λc hu=>by
  rw[List.all_cons,bZ] at f;rcases aW.mp hu with rfl|hu
  .rw[yE r f.1];exact Fp r b f.1 fx
  .exact ur b fx t f.2 c hu
def pJ(x:V)(xs:List V):Bool:=xs.any λy=>fP y x
def Ao(K:Frag)(neg:Bool):R2:=λx y H Q=>∃p xs,y=.ref p/\(aZ K H p xs\/bf K H p xs)/\gH x=true/\xs.all gH=true/\Q (.bl (if neg then !pJ x xs else pJ x xs)) H
theorem JF:aV X (compareOp .NotIn) (Ao X.K true):=by
 intro pins s σ H x y v u Q I c d h;obtain⟨p,xs,rfl,hq,fx,fs,q⟩:=h;cases d;rcases hq with hq|hq
 .obtain⟨its,r,a,e⟩:=I.list hq
  refine SeqAt.notIn_listAt (iA x) a.isList (λw b=>ur c fx r fs w (by simpa using b)) ⟨.bl _,H,I,rfl,?_⟩;rw[show its.toArray.any (iA x)=its.any (iA x) by simp,sf r fs];exact q
 .obtain⟨its,r,a,e⟩:=I.tuple hq
  refine SeqAt.notIn_tupleAt (iA x) a (λw b=>ur c fx r fs w (by simpa using b)) ⟨.bl _,H,I,rfl,?_⟩;rw[show its.toArray.any (iA x)=its.any (iA x) by simp,sf r fs];exact q
theorem DG:cV X (.builtin "len") (λxs H Q=>∃p ys,xs=[.ref p]/\(aZ X.K H p ys\/bf X.K H p ys)/\Q (.int ys.length) H):=by
 intro pins s σ H xs e Q I r h;obtain⟨p,ys,rfl,hq,q⟩:=h;obtain⟨u,rfl,c⟩:=vals1 r;cases c;have hn:=mS;rcases hq with hq|hq
 .obtain⟨its,r',b,d⟩:=I.list hq
  have a:=r'.length;exact Calls.call_len_list b.isList (by simp only[bY]<;>omega) ⟨.int ys.length,H,I.tok _,⟨s.toks+1,by rw[bY,a]⟩,q⟩
 .obtain⟨its,r',b,d⟩:=I.tuple hq
  have a:=r'.length;exact len_tuple b (by simp only[bY]<;>omega) ⟨.int ys.length,H,I.tok _,⟨s.toks+1,by rw[bY,a]⟩,q⟩
theorem DH:cV X (.builtin "len") (λxs H Q=>∃z,xs=[.str z]/\z.length<=sizeLine/\Q (.int z.length) H):=by
 intro pins s σ H xs a Q I r h;obtain⟨z,rfl,b,q⟩:=h;obtain⟨u,rfl,t,rfl⟩:=vals1 r;have hn:=mS;exact len_str (by omega) ⟨.int z.length,H,I.tok _,⟨_,rfl⟩,q⟩
theorem cV.or{f:Value}{r r':List V->Hp->VK->Prop}(h:cV X f r)(h':cV X f r'):cV X f (λxs H Q=>r xs H Q\/r' xs H Q):=by
 intro pins s σ H xs a Q I rs q;rcases q with q|q
 .exact h pins s σ H xs a Q I rs q
 .exact h' pins s σ H xs a Q I rs q
theorem xH:cV X (.type "tuple") (λxs H Q=>∃p ys,xs=[.ref p]/\((aZ X.K H p ys/\∀l,H l=none->Q (.ref l) (upd H l (.tup ys)))\/(bf X.K H p ys/\Q (.ref p) H))):=by
 intro pins s σ H xs k Q I r h;obtain⟨p,ys,rfl,h⟩:=h;obtain⟨u,rfl,i⟩:=vals1 r;cases i;rcases h with⟨a,q⟩|⟨a,q⟩
 .obtain⟨its,r',c,d⟩:=I.list a
  have f:=r'.length;refine call_tuple_list c.isList (λh' kp=>?_) (by simp only[bY]<;>omega);have g:Inv X pins σ H {s with heap:=h'}:=I.kept (t':=s.toks) kp;have j:Inv X pins σ (upd H h'.objs.size (.tup ys)) {s with heap:=h'.push {cls:=.type "tuple",data:=.seq its.toArray}}:=
   g.laid (t':=s.toks) (λb o e=>bw _ e) (aI _) (show bT X.prog X.w _ _ _ (.tup ys) from⟨d,its,r',iW.new _ _⟩)
  exact⟨.ref h'.objs.size,_,j,rfl,q _ (g.hok.fresh (aI _))⟩
 .obtain⟨its,r',c,d⟩:=I.tuple a
  exact call_tuple_same c ⟨.ref p,H,I,rfl,q⟩
def vv(K:Frag)(T:String)(x:V)(H:Hp):Prop:=match x with
 |.str _=>T="str"
 |.int _=>T="int"
 |.ref p=>(T="list"/\∃xs,aZ K H p xs)\/(T="tuple"/\∃o,K.lookup p=some o/\o.cls=.type "tuple"/\o.dict=none)\/
  (T="dict"/\((∃kvs,H p=some (.dK kvs))\/∃kvs,H p=some (.dT kvs)))\/(T="set"/\∃S n,H p=some (.set S n))
 |_=>False
theorem Nd{pins:aO}{σ:St}{H:Hp}{s:Shared}{T:String}{x:V}{v:Value}(I:Inv X pins σ H s)(r:RelV x v)(ty:vv X.K T x H):
  s.TypeIs v T/\∀a,v=.ref a->∃d,s.heap.get? a=some d/\d.dict=none:=by
 cases x with
 |str z=>
  obtain⟨t,rfl⟩:=r;cases (show T="str" from ty);exact⟨jU s z t,λ_ e=>nomatch e⟩
 |int i=>
  obtain⟨t,rfl⟩:=r;cases (show T="int" from ty);exact⟨typeIs_int s i t,λ_ e=>nomatch e⟩
 |ref p=>
  cases r;rcases ty with⟨rfl,xs,g⟩|⟨rfl,o,hk,hc,hd⟩|⟨rfl,hk⟩|⟨rfl,S,n,hk⟩
  .obtain⟨its,_,f,_⟩:=I.list g
   refine⟨f.isList.typeIs,λa e=>?_⟩;cases e;obtain⟨o,n,e,c,hd,_⟩:=f;exact⟨o,e,hd⟩
  .refine⟨⟨o,I.dz p o hk,hc⟩,λa e=>?_⟩
   cases e;exact⟨o,I.dz _ o hk,hd⟩
  .have z:∃o,s.heap.get? p=some o/\o.ExactDict:=by
    rcases hk with⟨kvs,hk⟩|⟨kvs,hk⟩
    .obtain⟨_,_,_,_,o,_,_,e,ex,_⟩:=I.hok p _ hk
     exact⟨o,e,ex⟩
    .obtain⟨_,_,_,_,o,_,_,e,ex,_⟩:=I.hok p _ hk
     exact⟨o,e,ex⟩
   obtain⟨o,e,ex⟩:=z;refine⟨⟨o,e,ex.1⟩,λa b=>?_⟩;cases b;exact⟨o,e,ex.2.1⟩
  .obtain⟨o,_,_,_,e,ex,_⟩:=I.hok p _ hk
   refine⟨⟨o,e,ex.1⟩,λa b=>?_⟩;cases b;exact⟨o,e,ex.2.1⟩
 |_=>exact False.elim ty
def Mr(K:Frag)(T:String)(r:V->List V->Hp->VK->Prop)(to:TE)(t:TA):TE:=λσ H Q=>to σ H λx H1=>vv K T x H1/\t σ H1 λxs H2=>r x xs H2 Q
variable{o e:Expr}{es:List Expr}{to:TE}{t:TA}{name:Str}{apos cpos:Pos}{T id:String}{r:V->List V->Hp->VK->Prop}
theorem z9(k:PlainAttrs T)(slot:Slot T name id)(f:typeOf (.builtin id)=pure (.type "method_descriptor"))(l:rR X id r)(m:PE X o to)(n:PA X (e::es) t)
  (b:attributeBase o name X.env (eval o X.env)=eval o X.env:=by rfl)
  (d:((backTo cpos (starEach (e::es) X.env)).all (λx=> !x.1)&&(backToKw cpos (keywordEach [] X.env)).all (λx=>x.1.isSome)
   &&decide ((e::es).length+([]:List Keyword).length+(if ([]:List Keyword).isEmpty then 0 else 1)<30))=true:=by rfl)
  (c:(apos.endLine==cpos.line)=true:=by rfl)(p:starEach (e::es) X.env=(false,eval e X.env)::starEach es X.env:=by rfl)(a:(backTo cpos (starEach es X.env)).any (·.1)=false:=by rfl):
  PE X (.Call (.Attribute o name apos) (e::es) [] cpos) (Mr X.K T r to t):=by
 intro pins s σ H Q I h
 refine wpAny_Call_method_late b d c rfl (aJ (m pins s σ H _ I h) λv q ⟨x,H1,g,i,ty,u⟩=> ?_)
 obtain⟨h1,h2⟩:=Nd g i ty
 refine⟨T,id,k,slot,f,h1,h2,?_⟩
 have j:=n cpos pins q σ H1 _ g u
 rw[p] at j ⊢
 refine Calls.callWith_builtin (by show(false||(backTo cpos (starEach es X.env)).any (·.1))=false;rw[a]<;>rfl) (Calls.evalArgs_plain ?_)
 exact aJ j λw y ⟨z,H2,A,B,C⟩=>l pins y σ H2 x z v w Q A i B C
end
def j9(X:Cx)(id:String)(r:V->List V->Hp->VK->Prop):Prop:=
 ∀(pins:aO) (s:Shared) (σ:St) (H:Hp) (x:V) (xs:List V) (v:Value) (us:List Value) (Q:VK),Inv X pins σ H s->RelV x v->Vals xs us->r x xs H Q->
  wpAny (model X.prog X.w) X.A (call (.builtin id) (v::us)) (EP X pins σ Q) X.xe s
theorem Vals.one:∀{x:V} {a:List Value},Vals [x] a->∃u,a=[u]/\RelV x u
 |_,_,.cons r .nil=>⟨_,rfl,r⟩
section
variable{X:Cx}{pins:aO}{σ:St}{H:Hp}{s:Shared}{l b:Addr}{xs ys zs:List V}
theorem Inv.Ij{its its':List Value}{n:Nat}{f:Array Value->Array Value}{t':Nat}(I:Inv X pins σ H s)(a:H l=some (.lst xs))
  (e:s.heap.get? l=some {cls:=.type "list",data:=.seq its.toArray n})(b:f its.toArray=its'.toArray)(c:Vals ys its')(d:ys.length<=sizeLine):
  Inv X pins σ (upd H l (.lst ys)) {s with heap:=s.heap.update l (Obj.mapSeq f),toks:=t'}:=by
 have q:=PySem.IsL.update e f;rw[b] at q;refine I.write (x:=l) (e:=l) (by rw[a];exact trivial) (.inl rfl) (λi u g h=>(jo s.heap (Obj.mapSeq f) (Ne.symm g)).trans h) ⟨_,q⟩ ?_;exact⟨d,its',_,c,q⟩
theorem Inv.zF{its:List Value}{t':Nat}(I:Inv X pins σ H s)(a:Vals ys its)(b:ys.length<=sizeLine):
  Inv X pins σ (upd H s.heap.objs.size (.lst ys)) {s with heap:=s.heap.push {cls:=.type "list",data:=.seq its.toArray},toks:=t'}:=
 I.laid (λ_ _ q=>bw _ q) (aI _) ⟨b,its,0,a,bK _ rfl⟩
theorem Inv.fresh(I:Inv X pins σ H s):H s.heap.objs.size=none:=I.hok.fresh (aI _)
theorem Inv.pV(I:Inv X pins σ H s)(a:H l=some (.lst xs)):xs.length<=sizeLine/\∃(its:List Value) (n:Nat),Vals xs its/\xs.length=its.length/\s.heap.get? l=some {cls:=.type "list",data:=.seq its.toArray n}:=by
 obtain⟨z,its,n,r,e⟩:=I.hok l _ a;exact⟨z,its,n,r,r.length,e⟩
end
section
variable{X:Cx}
def Ak:V->List V->Hp->VK->Prop:=λx vs H Q=>∃l xs y,x=.ref l/\vs=[y]/\H l=some (.lst xs)/\xs.length<sizeLine/\Q .aM (upd H l (.lst (xs++[y])))
theorem m5:j9 X "list.append" Ak:=by
 intro pins s σ H x d v f Q I b c h;obtain⟨l,xs,y,rfl,rfl,a,g,q⟩:=h;cases b;obtain⟨u,rfl,ru⟩:=c.one;obtain⟨z,its,n,r,i,e⟩:=I.pV a;refine jX F.slot_list_append ⟨_,e,rfl⟩ F.entry_list_append (F.args_list_append_2 _ _) (PySem.list_append l its.toArray n u (by rw[bY];omega)) ⟨e,?_⟩;refine⟨.aM,_,I.Ij (its':=its++[u]) a e (by simp) (r.append (.cons ru .nil)) ?_,rfl,q⟩;rw[b_,List.length_singleton];omega
def Al:R2:=λx y H Q=>∃l b xs zs,x=.ref l/\y=.ref b/\H l=some (.lst xs)/\H b=some (.lst zs)/\xs.length+zs.length<=sizeLine/\∀p,H p=none->Q (.ref p) (upd H p (.lst (xs++zs)))
theorem Jp:aV X (binaryOp .Add) Al:=by
 intro pins s σ H x y v u Q I c d h;obtain⟨l,b,xs,zs,rfl,rfl,f,g,o,q⟩:=h;cases c;cases d;obtain⟨z,its,n,r,p,e⟩:=I.pV f;obtain⟨t,a,w,i,j,k⟩:=I.pV g;refine PySem.P.add_list e k ?_ (by rw[bY,bY];omega);have m:its.toArray++a.toArray=(its++a).toArray:=by simp
 rw[m];exact⟨.ref _,_,I.zF (t':=s.toks) (r.append i) (by rw[b_];omega),rfl,q _ I.fresh⟩
end
section
variable{κ:Type}[DecidableEq κ]
def dM(kvs:List (κ×V))(k:κ):Option V:=(kvs.find? λkv=>decide (kv.1=k)).map (·.2)
def putK(kvs:List (κ×V))(k:κ)(v:V):List (κ×V):=
 if (kvs.any λkv=>decide (kv.1=k))=true then kvs.map (λkv=>if kv.1=k then (kv.1,v) else kv) else kvs++[(k,v)]
theorem Cr{p:κ×V}{r:List (κ×V)}{k:κ}(e:p.1=k):dM (p::r) k=some p.2:=by simp[dM,jn,e]
theorem Cq{p:κ×V}{r:List (κ×V)}{k:κ}(e:¬p.1=k):dM (p::r) k=dM r k:=by simp[dM,jn,e]
theorem f_.zj{o:Option V}{u:Option Value}(r:f_ o u):o.isSome=u.isSome:=by
 cases o with
 |none=>cases u with
  |none=>rfl
  |some _=>exact(show False from r).elim
 |some _=>cases u with
  |none=>exact(show False from r).elim
  |some _=>rfl
theorem KV.val{kvs:List (κ×V)}{d:List (κ×Value)}(r:KV kvs d)(k:κ):f_ (dM kvs k) (valueAt d k):=by
 unfold KV at r;induction r with
 |nil=>exact True.intro
 | @cons p q ps a h t f=>
  obtain⟨h1,h2⟩:=h;by_cases e:p.1=k
  .have c:q.1=k:=h1.symm.trans e
   have b:valueAt (q::a) k=some q.2:=by simp[valueAt,jn,c]
   rw[Cr e,b];exact h2
  .have c:¬q.1=k:=λz=>e (h1.trans z)
   have b:valueAt (q::a) k=valueAt a k:=by simp[valueAt,jn,c]
   rw[Cq e,b];exact f
theorem KV.any{kvs:List (κ×V)}{b:List (κ×Value)}(r:KV kvs b)(k:κ):(kvs.any λa=>decide (a.1=k))=b.any λa=>decide (a.1=k):=by
 unfold KV at r;induction r with
 |nil=>rfl
 |cons h t c=>rw[any_cons,any_cons,c,h.1]
theorem KV.repl{kvs:List (κ×V)}{b:List (κ×Value)}(r:KV kvs b)(k:κ){y:V}{u:Value}(c:RelV y u):
  KV (kvs.map λa=>if a.1=k then (a.1,y) else a) (b.map λa=>if a.1=k then (a.1,u) else a):=by
 unfold KV at r ⊢;induction r with
 |nil=>exact .nil
 | @cons p q ps f h t d=>
  rw[eB,eB];refine .cons ?_ d;obtain⟨h1,h2⟩:=h;by_cases e:p.1=k
  .rw[ao e,ao (h1.symm.trans e)];exact⟨h1,c⟩
  .rw[av e,av (λz=>e (h1.trans z))];exact⟨h1,h2⟩
theorem KV.put{kvs:List (κ×V)}{a:List (κ×Value)}(r:KV kvs a)(k:κ){y:V}{u:Value}(b:RelV y u):KV (putK kvs k y) (stored a k u):=by
 unfold putK stored;rw[r.any k];by_cases e:(a.any λc=>decide (c.1=k))=true
 .rw[ao e,ao e];exact r.repl k b
 .rw[av e,av e];exact Paired.snoc r ⟨rfl,b⟩
theorem KV.length{kvs:List (κ×V)}{a:List (κ×Value)}(r:KV kvs a):kvs.length=a.length:=Paired.length r
end
theorem pN{P:Program}{w:World}{k:Key}{u:Value}(r:RelV (kV k) u):(ee P w).is k u=true:=by
 cases k with
 |inl i=>obtain⟨t,e⟩:=(show ∃t,u=Value.int i t from r);subst e;exact IG P w i t
 |inr x=>obtain⟨t,e⟩:=(show ∃t,u=Value.str x t from r);subst e;exact II P w x t
theorem zl{P:Program}{w:World}:∀{a:List Key} {b:List Value},Vals (a.map kV) b->ItemsAre (ee P w) a b
 |[],_,r=>by rw[List.map_nil] at r;cases r;exact .nil
 |k::a,_,r=>by
  rw[eB] at r;cases r with
  |cons h t=>exact .cons (pN h) (zl t)
abbrev KT(H:Hp):List (List Key×V)->List (List Key×Addr×Value)->Prop:=Paired λp q=>p.1=q.1/\H q.2.1=some (.tup (p.1.map kV))/\RelV p.2 q.2.2
theorem KT.val{H:Hp}{kvs:List (List Key×V)}{xs:List (List Key×Addr×Value)}(r:KT H kvs xs)(k:List Key):f_ (dM kvs k) ((atKey xs k).map (·.2)):=by
 induction r with
 |nil=>exact True.intro
 | @cons p q ps a h t d=>
  obtain⟨h1,_,h2⟩:=h;by_cases e:p.1=k
  .have c:q.1=k:=h1.symm.trans e
   have b:atKey (q::a) k=some q.2:=by simp[atKey,jn,c]
   rw[Cr e,b];exact h2
  .have c:¬q.1=k:=λz=>e (h1.trans z)
   have b:atKey (q::a) k=atKey a k:=by simp[atKey,jn,c]
   rw[Cq e,b];exact d
section
variable{P:Program}{w:World}{H:Hp}{h:Heap}{a:Addr}
theorem AG{u:HO}(ok:bM P w H h)(e:Rd H a u):bT P w H h a u:=e.ok ok
theorem o6{kvs:List (Key×V)}(ok:bM P w H h)(e:Rd H a (.dK kvs)):kvs.length<=sizeLine/\(a==sysModules)=false/\∃b,KV kvs b/\h.DictOf (ee P w) a b:=
 show bT P w H h a (.dK kvs) from AG ok e
theorem tY{b:List Key}(ok:bM P w H h)(e:H a=some (.tup (b.map kV))):(tupleKind (ee P w)).is h b a:=by
 obtain⟨_,its,r,p⟩:=(show bT P w H h a (.tup (b.map kV)) from ok a _ e);obtain⟨o,h1,h2,n,h3⟩:=p.is;exact⟨o,its.toArray,n,h1,h2,h3,by simpa using zl r⟩
theorem sW{kvs:List (List Key×V)}(ok:bM P w H h)(e:Rd H a (.dT kvs)):kvs.length<=sizeLine/\(a==sysModules)=false/\
  ∃xs,KT H kvs xs/\h.DictOfH (tupleKind (ee P w)) a xs:=by
 obtain⟨z,y,xs,r,o,es,ep,h1,h2,h3,c,d⟩:=(show bT P w H h a (.dT kvs) from AG ok e);refine⟨z,y,xs,r,o,es,ep,h1,h2,h3,c,λx hx=>?_,d⟩;have all:∀{l:List (List Key×V)} {m:List (List Key×Addr×Value)},KT H l m->∀x∈m,(tupleKind (ee P w)).is h x.1 x.2.1:=by
  intro l m q;induction q with
  |nil=>intro x hx;exact nomatch hx
  | @cons p q ps g b t f=>
   intro x hx;rcases aW.mp hx with e|hx
   .subst e
    exact tY ok (by rw[<-b.1];exact b.2.1)
   .exact f x hx
 exact all r x hx
end
def lV(H:Hp)(a:Addr)(y:V)(r:Option V):Prop:=
 (∃kvs k,Rd H a (.dK kvs)/\y=kV k/\r=dM kvs k)\/∃kvs k b,Rd H a (.dT kvs)/\y=.ref b/\H b=some (.tup (k.map kV))/\r=dM kvs k
section
variable{X:Cx}{pins:aO}{σ:St}{H:Hp}{s:Shared}{a:Addr}{y v:V}{u r:Value}{o:Option V}{A:Around}{E:aF}
theorem Inv.big(I:Inv X pins σ H s):sysModules<s.heap.objs.size:=by
 have h:mainGlobals<s.heap.objs.size:=(I.mod.glob.keeps I.bk).lt;exact lt_trans (by decide) h
theorem Ey{Q:aF}(n:A.units+1<cLine)(I:Inv X pins σ H s)(g:lV H a y (some v))(m:RelV y u)(h:∀d s',Inv X pins σ H s'->RelV v d->Q d s'):
  wpAny (model X.prog X.w) A (getItem (.ref a) u) Q E s:=by
 rcases g with⟨kvs,k,e,f,l⟩|⟨kvs,k,b,e,f,q,l⟩
 .subst f
  obtain⟨z,hd,r,rel,dd⟩:=o6 I.hok e;obtain⟨d,i,c⟩:=f_.some_of (v:=v) (o:=valueAt r k) (by rw[l];exact rel.val k);exact wpAny_getItem_of (pN m) dd.mapOf i (h d _ (I.tok _) c)
 .subst f
  cases (show u=Value.ref b from m);obtain⟨z,hd,xs,rel,dd⟩:=sW I.hok e;obtain⟨d,i,c⟩:=f_.some_of (v:=v) (o:=(atKey xs k).map (·.2)) (by rw[l];exact rel.val k);obtain⟨p,t,j⟩:=Option.map_eq_some_iff.mp i;refine wpAny_getItem_heap (tupleKind_room_in1 n) (tY I.hok q) dd t ?_;rw[j];exact h d _ (I.tok _) c
theorem EI{Q:aF}(f:A.units+1<cLine)(I:Inv X pins σ H s)(g:lV H a y o)(d:RelV y u)(h:∀s',Inv X pins σ H s'->Q (.bool (!o.isSome)) s'):
  wpAny (model X.prog X.w) A (compareOp .NotIn u (.ref a)) Q E s:=by
 rcases g with⟨kvs,k,e,c,l⟩|⟨kvs,k,b,e,c,i,l⟩
 .subst c
  obtain⟨z,hd,j,rel,dd⟩:=o6 I.hok e;refine wpAny_notIn_of (pN d) hd dd.mapOf ?_;rw[<-(rel.val k).zj,<-l];exact h _ (I.tok _)
 .subst c
  cases (show u=Value.ref b from d);obtain⟨z,hd,xs,rel,dd⟩:=sW I.hok e;refine wpAny_notIn_heap (tupleKind_room_in1 f) (tY I.hok i) hd dd ?_;have q:=(rel.val k).zj;rw[Option.isSome_map] at q;rw[<-q,<-l];exact h _ (I.tok _)
end
section
variable{X:Cx}{pins:aO}{σ:St}{H:Hp}{s:Shared}{a:Addr}{kvs:List (Key×V)}{k:Key}{u:Value}{A:Around}{E:aF}
theorem cH{Q:aF}(I:Inv X pins σ H s)(e:Rd H a (.dK kvs))(h:∀t s',Inv X pins σ H s'->Q (.int kvs.length t) s'):wpAny (model X.prog X.w) A (call (.builtin "len") [.ref a]) Q E s:=by
 obtain⟨z,hd,b,rel,dd⟩:=o6 I.hok e;refine call_len_dict hd dd (by rw[<-rel.length];rw[sizeLine_eq] at z;omega) ?_;rw[<-rel.length];exact h _ _ (I.tok _)
end
theorem E3{X:Cx}{pins:aO}{σ:St}{H:Hp}{s:Shared}{a:Addr}{y:V}{o:Option V}(I:Inv X pins σ H s)(g:lV H a y o):s.TypeIs (.ref a) "dict":=by
 rcases g with⟨kvs,k,e,_,_⟩|⟨kvs,k,b,e,_,_,_⟩
 .obtain⟨_,_,c,_,dd⟩:=o6 I.hok e
  exact dd.typeIs
 .obtain⟨_,_,xs,_,dd⟩:=sW I.hok e
  exact dd.typeIs
end L2
end
namespace vR
open PySem PySem.W PySem.Calls PyProof.Rows
theorem Hf{P:Params}{h:Heap}:∀(ns:List Int) (c:List Value),WellAll P h c (ns.map WData.int)->IntsAre c ns:=by
 intro ns;induction ns with
 |nil=>
  intro c w;rw[List.map_nil] at w;cases w;exact .nil
 |cons n ns d=>
  intro c w;rw[eB] at w;cases w with
  |cons a b=>
   cases a;exact .cons _ _ (d _ b)
theorem LK{l:OpenLaw}{n:Nat}(hn:l.most=some n){P:Params}{h:Heap}{args:List WData}{vals:List Value}
  (b:l.row.toRowW.claim.pre args=true)(i:WellAll P h vals args):
  ∃a k ns,vals=[Value.ref a]/\args=[WData.list (ns.map WData.int)]/\h.get? a=some {cls:=.type "list",data:=.seq k.toArray}/\IntsAre k ns/\ns.length<=n:=by
 have j:WShape.hasAll [] args [.list .int]=true:=(pre_splitW b).1;have hc:l.pre.holds [] {args:=args}=true:=(pre_splitW b).2;obtain⟨d,r,rfl,h1,h2⟩:=hasAllW_cons j;obtain rfl:=hasAllW_nil h2;obtain⟨xs,rfl,h3⟩:=hasW_list h1;obtain⟨ns,rfl⟩:=items_int h3;have c:ns.length<=n:=by
  unfold OpenLaw.pre at hc;have f:(WTm.not (.lt (.lit (.int (n:Int))) (.len (.arg 0)))).holds [] {args:=[.list (ns.map .int)]}=true:=by
   have f:=(holds_andW hc).1;rw[hn] at f;exact f
  have g:=condW_of f (w_not (w_lt w_lit (w_len_list (w_arg rfl))));rw[bB] at g;refine Nat.le_of_not_lt λq=>?_;have m:(n:Int)<((ns.length:Nat):Int):=by omega
  first
   |(rw[dN m] at g;exact absurd g (by decide))
   |(simp at g;omega)
 cases i with
 |cons o p=>
  cases p;cases o with
  |list s e=>exact⟨_,_,ns,rfl,rfl,s,Hf ns _ e,c⟩
theorem Kl(l:OpenLaw)(args:List WData):l.row.toRowW.claim.post args (.bool true) args=true:=
 postW_of (r:=l.row.toRowW) (X:=(true==true))
  (show WShape.has [] (.bool true) .bool=true by first|rfl|decide|simp[WShape.has,WShape.arms,WShape.armsAll])
  (show(WTm.eq .res (.lit (.bool true))).value [] {args:=args,res:=some (.bool true),after:=args}=some (.bool (true==true)) from w_eq_bool (w_res rfl) w_lit) rfl
theorem Dt{l:OpenLaw}{n:Nat}{q:Program}{loose:List Str}{s:(au)->Heap->Prop}{t:World->Heap->Prop}{d:DefRec}
  (hn:l.most=some n)(j:d.params.defaults=[])
  (call:∀(w:World) (s₀ b:Shared) (mg mb:au) (e:Addr) (o:Obj) (pm cd doc:Value) (a:Addr) (c:List Value) (ns:List Int),
   Ground q loose [] s w s₀ mg mb b.heap->t w b.heap->
   b.heap.get? e=some o->o.data= .func (docDef d.name d.params d.body d.scope pm cd doc)->b.heap.CodeRec cd d.name->mg d.name=some (.ref e)->
   b.heap.get? a=some {cls:= .type "list",data:= .seq c.toArray}->IntsAre c ns->ns.length<=n->b.gens= #[]->
   codeAny (model l.prog w) callerA (.call (.ref e) ⟨[.ref a],[]⟩) (λr s'=>r= .ok (.ret (.bool true))/\OldK b.heap s'.heap/\s'.os=b.os/\AllBare s'.gens) b):
  WalkO q loose s t l.row.toRowW d [] (λf c=>PySem.call f c):=by
 intro w s₀ b mg mb G Y e o pm cd doc x kV y hd k u m z args vals as g v A p B
 obtain rfl:x= .none:=Dflts.none u j
 obtain rfl:kV= .none:=Dflts.noKw u
 obtain⟨a,c,ns,rfl,rfl,h,hints,i⟩:=LK hn g p
 refine enter_call (n8 (call w s₀ b mg mb e o pm cd doc a c ns G Y y (fd_plain hd) k m h hints i z) λr s' C=> ?_)
 obtain⟨rfl,h2,h3,D⟩:=C
 exact⟨.inl ⟨.bool true,.bool true,[],rfl,λ_=>rfl,.bool true,Kl l _,λ_=>⟨Pairwise.nil,λ_ E=>(nomatch E)⟩⟩,h2,h3,D⟩
end vR
section
open PySem PySem.Spec PyProof.Rows
namespace L2
theorem Cs:∀{a:List Value} {ns:List Int},IntsAre a ns->Vals (ns.map V.int) a
 |_,_,.nil=>.nil
 |_,_,.cons n t h=>.cons ⟨t,rfl⟩ (Cs h)
def ow(H:Hp):Prop:=∀b,H b=none\/∃o xs,H b=some (.b5 o (.lst xs))
theorem HY{P:Program}{w:World}{K:Frag}{mg mb:au}{CX:fM}{k:Nat}{E a:Addr}{fd:FuncData}{x:Str}{sp:Sp}{c:Shared}{j:List Value}{ns:List Int}
  (N:K.In c.heap)(p:c.heap.Ns mainGlobals mg)(g:c.heap.Ns builtinsNs mb)(G:∀x:Str,x≠"__name__"->mb x=bootBuiltins x)(t:c.heap.NoLimit)(U:c.gens= #[])
  (D:c.heap.get? a=some {cls:= .type "list",data:= .seq j.toArray})(hi:IntsAre j ns)(O:ns.length<=sizeLine)(W:ck k callerA)
  (F:∀base:Heap,K.In base->base.Ns mainGlobals mg->dH P w K mg base CX k E fd [x] sp)(l:∀(s:Shared) (u:Value),BindsTo s fd ⟨[u],[]⟩ [(x,u)])
  (I:∀H:Hp,ow H->aZ K H a (ns.map V.int)->sp [.ref a] H (λv _=>v= .bl true) λ_ _ _=>False)
  (J:∀H e s',CX [] H c (λ_ _ _=>False) e s'->False):
  codeAny (model P w) callerA (.call (.ref E) ⟨[.ref a],[]⟩) (λr s'=>r= .ok (.ret (.bool true))/\OldK c.heap s'.heap/\s'.os=c.os/\AllBare s'.gens) c:=by
 have Q:=Cs hi
 have y:=hi.length
 have core:∀H:Hp,ow H->aZ K H a (ns.map V.int)->bM P w H c.heap->(∀b,H b≠none->b=a)->(H a≠none->K.lookup a=none)->
   codeAny (model P w) callerA (.call (.ref E) ⟨[.ref a],[]⟩) (λr s'=>r= .ok (.ret (.bool true))/\OldK c.heap s'.heap/\s'.os=c.os/\AllBare s'.gens) c:=by
  intro H R X hok S Y
  have f:∀{b:Addr} {o:Obj},c.heap.get? b=some o->H b=none->(iE c.heap H).get? b=some o:=λe n=>GX e n
  have L:∀{b:Addr} {o:Obj} {es:Array DictEntry} {ep:Nat},c.heap.get? b=some o->o.data= .dict es ep->H b=none:=λ {b o es ep} e d=>by
   cases q:H b with
   |none=>rfl
   |some u=>
    have M:b=a:=S b (by rw[q];simp)
    subst M
    rw[D] at e;cases e
    have d':Data.seq j.toArray _=Data.dict es ep:=d
    cases d'
  have i:∀{b:Addr} {m:au},c.heap.Ns b m->(iE c.heap H).Ns b m:=λ {b m} ⟨o,es,ep,e,d,r⟩=>⟨o,es,ep,f e (L e d),d,r⟩
  have A:K.In (iE c.heap H):=λb o e=>f (N b o e) (by
   cases q:H b with
   |none=>rfl
   |some u=>
    have M:b=a:=S b (by rw[q];simp)
    subst M
    rw[Y (by rw[q];simp)] at e;cases e)
  have Z:Mod K mg (iE c.heap H):=⟨A,i p,⟨mb,i g,G⟩,let ⟨mc,h1,h2⟩:=t;⟨mc,i h1,h2⟩⟩
  have e0:oi P w K mg (iE c.heap H) callerA [] c H:=⟨rfl,Z,λb o e=>Jh e,Nat.le_of_eq (GY _ _),trivial,λb g=>absurd (show b∈([]:List Addr) from g) (by simp),hok,.of_eq U⟩
  refine n8 ((F _ A (i p)).run callerA [] c H ⟨[.ref a],[]⟩ [.ref a] [.ref a] _ _ W e0 (l c (.ref a)) (.cons rfl .nil) (I H R X)) λr s' h=> ?_
  cases r with
  |error e=>exact(J H e s' h).elim
  |ok fl=>
   cases fl with
   |next=>exact False.elim h
   |brk=>exact False.elim h
   |cont=>exact False.elim h
   |ret u=>
    obtain⟨v,H',os,bare,un,B,r',q⟩:=h
    have q':v= .bl true:=q
    subst q'
    obtain rfl:u=Value.bool true:=r'
    refine⟨rfl,OldK.of_keep λb o e=> ?_,os,bare⟩
    cases q:H b with
    |none=>exact un.keep b o e q (by intro z;exact absurd (show b∈([]:List Addr) from z) (by simp)) (by simp)
    |some u=>
     rcases R b with z|⟨ob,xs,z⟩
     .rw[q] at z;cases z
     .have z2:=un.fc b ob _ z
      obtain⟨T,_⟩:=hok b _ z
      obtain⟨e2,_⟩:=B b _ z2
      rw[e] at T;cases T
      exact e2
 cases hk:K.lookup a with
 |some o=>
  have e:=N a o hk
  rw[D] at e
  cases e
  refine core (λ_=>none) (λ_=> .inl rfl) (.inr ⟨_,j.toArray,_,hk,rfl,rfl,rfl,by rw[bY,y];exact O,by simpa using Q⟩) (λb u z=>by have C:(none:Option HO)=some u:=z;cases C) (λb z=>absurd rfl z) λz=>absurd rfl z
 |none=>
  refine core (λb=>if b=a then some (.b5 {cls:= .type "list",data:= .seq j.toArray} (.lst (ns.map V.int))) else none) (λb=> ?_) (.inl (.inr ⟨{cls:= .type "list",data:= .seq j.toArray},ao rfl⟩)) (λb u z=> ?_) (λb z=> ?_) λ_=>hk
  .by_cases g:b=a
   .exact .inr ⟨_,_,ao g⟩
   .exact .inl (av g)
  .by_cases g:b=a
   .have C:=(ao g).symm.trans z
    cases C
    subst g
    exact⟨D,by rw[bB];exact O,j,_,Q,D⟩
   .have C:=(av g).symm.trans z
    cases C
  .by_cases g:b=a
   .exact g
   .exact absurd (av g) z
theorem Ng{l:PySem.W.OpenLaw}{n k:Nat}{q:Program}{loose:List Str}{D:(au)->Heap->Prop}{A:World->Heap->Prop}{d:DefRec}{K:Params->Frag}{CX:World->fM}{sp:World->Sp}{x:Str}
  (hn:l.most=some n)(p:n<=sizeLine)(r:d.params.defaults=[])(E:ck k callerA)
  (I:∀(w:World) (h:Heap),A w h->(K w.params).In h)
  (F:∀(w:World) (mg:au) (m:Addr) (h:Heap),(K w.params).In h->h.Ns mainGlobals mg->mg d.name=some (.ref m)->
   ∃fd:FuncData,(∀(s:Shared) (u:Value),BindsTo s fd ⟨[u],[]⟩ [(x,u)])/\
    ∀base:Heap,(K w.params).In base->base.Ns mainGlobals mg->dH l.prog w (K w.params) mg base (CX w) k m fd [x] (sp w))
  (t:∀(w:World) (H:Hp) (a:Addr) (ns:List Int),ns.length<=n->ow H->aZ (K w.params) H a (ns.map V.int)->sp w [.ref a] H (λv _=>v= .bl true) λ_ _ _=>False)
  (y:∀(w:World) (H:Hp) (s:Shared) (e:Value) (s':Shared),CX w [] H s (λ_ _ _=>False) e s'->False):
  PySem.W.WalkO q loose D A l.row.toRowW d [] (λf B=>PySem.call f B):=by
 refine vR.Dt hn r λw s₀ i mg mb m o pm cd doc a B ns G Y Q hd J z j hints c L=> ?_
 have C:=I w _ Y
 obtain⟨fd,M,N⟩:=F w mg m _ C G.T.g z
 exact HY C G.T.g G.T.b G.T.builtins G.T.nolimit L j hints (cM c p) E N M (λH O P=>t w H a ns c O P) λH e s'=>y w H i e s'
def i8(s:Stmt):Arguments:=match s with
 |.FunctionDef _ a _ _ _ _ _ _ _ _=>a
 |_=>{posonlyargs:=[],args:=[],vararg:=none,kwonlyargs:=[],kw_defaults:=[],kwarg:=none,defaults:=[]}
def e9(s:Stmt):List Stmt:=match s with
 |.FunctionDef _ _ b _ _ _ _ _ _ _=>b
 |_=>[]
def aH(s:Stmt):Scope:=match s with
 |.FunctionDef _ _ _ _ _ _ sc _ _ _=>sc
 |_=>{kind:=.function,names:=[],isGenerator:=false,isCoroutine:=false}
structure iu(K:Frag)(x qual:Str)(st:Stmt)(f:Addr)(fd:FuncData):Prop where
 ex:∃(oc:Value) (od:Option Addr) (kV doc pm:Value) (an:Option Addr) (cdv ct:Value) (osl:Array (Option Value)),
  fd=fnOf x qual (i8 st) (e9 st) (aH st) .none kV doc pm an cdv ct/\K.lookup f=some ⟨oc,od,.func fd,osl⟩/\codeIn K cdv qual=true
 kp:keepIn K (.ref f)=true
section
variable{P:Program}{w:World}{K:Frag}{mg:au}{base:Heap}
theorem iu.binds{x qual:Str}{st:Stmt}{f:Addr}{fd:FuncData}{ps:List Str}(F:iu K x qual st f fd)
  (h:∀(kV doc pm:Value) (an:Option Addr) (a ct:Value) (b:List Value),b.length=ps.length->bindArgs (fnOf x qual (i8 st) (e9 st) (aH st) .none kV doc pm an a ct) ⟨b,[]⟩=pure (ps.zip b)):Binds K fd ps []:=by
 obtain⟨e,g,kV,doc,pm,an,a,ct,c,rfl,lk,d⟩:=F.ex;exact .all (h kV doc pm an a ct)
theorem tL{x qual:Str}{st:Stmt}{f:Addr}{d:Value}{e an:Option Addr}{b:Array (Option Value)}{kV doc pm a ct:Value}(l:K.lookup f=some ⟨d,e,.func (fnOf x qual (i8 st) (e9 st) (aH st) .none kV doc pm an a ct),b⟩)
 (c:codeIn K a qual=true)(k:keepIn K (.ref f)=true):iu K x qual st f (fnOf x qual (i8 st) (e9 st) (aH st) .none kV doc pm an a ct):=⟨⟨d,e,kV,doc,pm,an,a,ct,b,rfl,l,c⟩,k⟩
end
section
variable{X:Cx}
theorem DF:cV X (.builtin "len") (λxs H Q=>∃a kvs,xs=[V.ref a]/\H a=some (.dK kvs)/\Q (.int kvs.length) H):=by
 intro pins s σ H xs d Q I r h;obtain⟨a,kvs,rfl,b,q⟩:=h;obtain⟨u,rfl,ru⟩:=vals1 r;cases ru;exact cH I (.inl b) λt s' c=>⟨.int kvs.length,H,c,⟨t,rfl⟩,q⟩
end
theorem Hu{A B:Prop}(h:B):if false=true then A else B:=by
 rw[av bR];exact h
theorem Hv{A B:Prop}(h:A):if true=true then A else B:=by
 rw[ao rfl];exact h
def kc(H H':Hp):Prop:=∀b o,H b=some o->H' b=some o
def bG:List (Str×NameKind)->List Str
 |[]=>[]
 |(n,k)::r=>if (k==NameKind.free)=true then n::bG r else bG r
def cE(env:Env):List (Str×NameKind)->List (Str×Addr)->List (Str×Addr)
 |[],acc=>acc
 |(n,k)::r,acc=>if (k==NameKind.free)=true then cE env r ((n,(env.cells.lookup n).getD 0)::acc) else cE env r acc
theorem sM{env:Env}{f:(Str×NameKind)->List (Str×Addr)->Sem (ForInStep (List (Str×Addr)))}
  (h1:∀n k cs c,(k==NameKind.free)=true->env.cells.lookup n=some c->f (n,k) cs=pure (.yield ((n,c)::cs)))(h2:∀n k cs,(k==NameKind.free)=false->f (n,k) cs=pure (.yield cs)):
  ∀(names:List (Str×NameKind)) (acc:List (Str×Addr)),(∀n∈bG names,∃c,env.cells.lookup n=some c)->forIn names acc f=pure (cE env names acc)
 |[],acc,_=>by rw[List.forIn_nil];rfl
 |(n,k)::r,acc,h=>by
  rw[List.forIn_cons];cases e:(k==NameKind.free) with
  |true=>
   have b:bG ((n,k)::r)=n::bG r:=by show(if (k==NameKind.free)=true then n::bG r else bG r)=_;rw[ao e]
   obtain⟨c,hc⟩:=h n (by rw[b];exact bJ);rw[h1 n k acc c e hc,pure_bind];show forIn r ((n,c)::acc) f=_;rw[sM h1 h2 r _ λm d=>h m (by rw[b];exact bE _ d)];have a:cE env ((n,k)::r) acc=cE env r ((n,(env.cells.lookup n).getD 0)::acc):=by
    show(if (k==NameKind.free)=true then _ else _)=_;rw[ao e]
   rw[a,hc];rfl
  |false=>
   have b:bG ((n,k)::r)=bG r:=by show(if (k==NameKind.free)=true then n::bG r else bG r)=_;rw[av (by rw[e];decide)]
   rw[h2 n k acc e,pure_bind];show forIn r acc f=_;rw[sM h1 h2 r _ λm d=>h m (by rw[b];exact d)];have a:cE env ((n,k)::r) acc=cE env r acc:=by
    show(if (k==NameKind.free)=true then _ else _)=_;rw[av (by rw[e];decide)]
   rw[a]
theorem xN{scope:Scope}{env:Env}(h:∀n∈bG scope.names,∃c,env.cells.lookup n=some c):closureFor scope env=pure (cE env scope.names []):=by
 unfold closureFor;show(forIn scope.names [] _>>=_)=_;rw[sM (env:=env) (λn k cs c hk hc=>?_) (λn k cs hk=>?_) scope.names [] h]
 .exact pure_bind _ _
 .dsimp only
  rw[ao hk];unfold cellOf;rw[hc];rfl
 .dsimp only
  rw[av (by rw[hk];decide)]
theorem mq{env:Env}{x:Str}:∀(names:List (Str×NameKind)) (acc:List (Str×Addr)),(∀n∈bG names,∃c,env.cells.lookup n=some c)->
  (cE env names acc).lookup x=if x∈bG names then env.cells.lookup x else acc.lookup x
 |[],acc,_=>by simp[cE,bG]
 |(n,k)::r,acc,h=>by
  cases e:(k==NameKind.free) with
  |true=>
   have b:bG ((n,k)::r)=n::bG r:=by show(if (k==NameKind.free)=true then n::bG r else bG r)=_;rw[ao e]
   obtain⟨c,hc⟩:=h n (by rw[b];exact bJ);have a:cE env ((n,k)::r) acc=cE env r ((n,(env.cells.lookup n).getD 0)::acc):=by
    show(if (k==NameKind.free)=true then _ else _)=_;rw[ao e]
   rw[a,b,mq r _ λm f=>h m (by rw[b];exact bE _ f)];by_cases d:x∈bG r
   .rw[ao d,ao (bE _ d)]
   .rw[av d]
    by_cases g:x=n
    .subst g
     rw[ao bJ,hc];simp
    .rw[av (by intro z;rcases aW.mp z with z|z;exact g z;exact d z)]
     have i:(x==n)=false:=by simpa using g
     rw[lookup_cons,i]
  |false=>
   have b:bG ((n,k)::r)=bG r:=by show(if (k==NameKind.free)=true then n::bG r else bG r)=_;rw[av (by rw[e];decide)]
   have a:cE env ((n,k)::r) acc=cE env r acc:=by
    show(if (k==NameKind.free)=true then _ else _)=_;rw[av (by rw[e];decide)]
   rw[a,b,mq r _ λm f=>h m (by rw[b];exact f)]
theorem sH{x:Str}{c:Addr}:∀(names:List (Str×NameKind)) (n:Nat) (acc:List (Str×Addr)),(cellsFrom n names acc).lookup x=some c->(n<=c/\(x,NameKind.cell)∈names)\/acc.lookup x=some c
 |[],n,acc,h=>.inr h
 |(m,k)::r,n,acc,h=>by
  unfold cellsFrom at h;split at h
  .rename_i hk
   rcases sH r _ _ h with⟨h1,h2⟩|h1
   .exact .inl ⟨by omega,bE _ h2⟩
   .rw[lookup_cons] at h1
    split at h1
    .rename_i a
     cases h1;exact .inl ⟨aI _,by rw[gX.mp a,<-gX.mp hk];exact bJ⟩
    .exact .inr h1
  .rcases sH r _ _ h with⟨h1,h2⟩|h1
   .exact .inl ⟨h1,bE _ h2⟩
   .exact .inr h1
theorem sG:∀(names:List (Str×NameKind)) (n:Nat) (acc:List (Str×Addr)),(∀x y c,acc.lookup x=some c->acc.lookup y=some c->x=y)->(∀x c,acc.lookup x=some c->c<n)->
  ∀x y c,(cellsFrom n names acc).lookup x=some c->(cellsFrom n names acc).lookup y=some c->x=y
 |[],_,_,h,_=>h
 |(m,k)::r,n,acc,h,f=>by
  unfold cellsFrom;split
  .refine sG r _ _ (λx y c d e=>?_) λx c d=>?_
   .rw[lookup_cons] at d e
    split at d<;>split at e
    .rename_i _ a _ b
     rw[gX.mp a,gX.mp b]
    .cases d
     exact absurd (f _ _ e) (eZ _)
    .cases e
     exact absurd (f _ _ d) (eZ _)
    .exact h x y c d e
   .rw[lookup_cons] at d
    split at d
    .cases d;exact iR _
    .exact fj (f _ _ d)
  .exact sG r _ _ h f
theorem sI{x:Str}:∀(names:List (Str×NameKind)) (n:Nat) (acc:List (Str×Addr)),(x,NameKind.cell)∉names->(cellsFrom n names acc).lookup x=acc.lookup x
 |[],_,_,_=>rfl
 |(m,k)::r,n,acc,h=>by
  have a:(x,NameKind.cell)∉r:=λz=>h (bE _ z);unfold cellsFrom;split
  .rename_i hk
   rw[sI r _ _ a,lookup_cons];split
   .rename_i b
    exact absurd (by rw[gX.mp b,<-gX.mp hk];exact bJ) h
   .rfl
  .exact sI r _ _ a
theorem sF{x:Str}:∀(names:List (Str×NameKind)) (n:Nat) (acc:List (Str×Addr)),((∃c,acc.lookup x=some c)\/(x,NameKind.cell)∈names)->∃c,(cellsFrom n names acc).lookup x=some c
 |[],_,_,h=>by
  rcases h with h|h
  .exact h
  .cases h
 |(m,k)::r,n,acc,h=>by
  unfold cellsFrom;split
  .rename_i hk
   refine sF r _ _ ?_;rcases h with⟨c,h⟩|h
   .left
    rw[lookup_cons];split
    .exact⟨_,rfl⟩
    .exact⟨c,h⟩
   .rcases aW.mp h with e|e
    .cases e
     exact .inl ⟨n,by rw[lookup_cons,beq_self_eq_true]⟩
    .exact .inr e
  .rename_i hk
   refine sF r _ _ (h.imp id λe=>?_);rcases aW.mp e with e|e
   .cases e
    exact absurd rfl hk
   .exact e
theorem uD{x:Str}{c:Addr}:∀(names:List (Str×NameKind)) (h:Heap) (acc:List (Str×Addr)),(cellsFrom h.objs.size names acc).lookup x=some c->acc.lookup x=some c\/(h.objs.size<=c/\(pushCells h names).IsCell c none)
 |[],h,acc,e=>.inl e
 |(m,k)::r,h,acc,e=>by
  unfold cellsFrom at e;unfold pushCells;split at e
  .rename_i hk
   rw[ao hk];have ih:=uD (x:=x) (c:=c) r (h.push {cls:=.type "cell",data:=.cell none}) ((m,h.objs.size)::acc) (by rw[cS];exact e);rw[cS] at ih;rcases ih with ih|ih
   .rw[lookup_cons] at ih
    split at ih
    .cases ih
     exact .inr ⟨aI _,_,pushCells_keeps r _ _ _ (bK _ rfl),rfl⟩
    .exact .inl ih
   .exact .inr ⟨by omega,ih.2⟩
  .rename_i hk
   rw[av hk];exact uD r h acc e
theorem Nn{M:Model}{A:Around}{E:aF}{s:Shared}{scope:Scope}{globals:Addr}{closure:List (Str×Addr)}{qual:Str}{func:Option Addr}{code:Value}{env:Env}{builtins:Addr}{Q:Env->Shared->Prop}
  (b:Q (newEnv scope s.heap.objs.size globals (cellsFrom (s.heap.objs.size+1) scope.names closure) qual func code (some env) builtins) {s with heap:=pushCells (s.heap.push {cls:=.type "dict",data:=.dict #[]}) scope.names}):
  wpAny M A (newFunctionEnv scope globals closure [] qual func code (some env) builtins) Q E s:=by
 simp only[newFunctionEnv,Option.isSome_some,gx];refine ah (wpAny_alloc ?_);refine ah (wpAny_layCells _ (λname kind cells=>by cases a:kind==NameKind.cell<;>simp[a]) _ _ _ _ ?_);rw[show({s with heap:=s.heap.push {cls:=.type "dict",data:=.dict #[]}}:Shared).heap.objs.size=s.heap.objs.size+1 from cS ..];rw[List.forIn_nil];exact ah (aB (aB b))
structure dF(X:Cx)(scope:Scope)(frees:List Str):Prop where
 kind:scope.kind= .function
 DT:∀y∈scope.names,y.2= .cell->scope.names.lookup y.1=some .cell
 locs:∀y∈scope.names,y.2= .local->scope.names.lookup y.1=some .local
 sub:∀n∈bG scope.names,n∈frees
 free:∀n∈frees,scope.names.lookup n=some .free
 kinds:(frees.all λn=>X.env.kindOf n==some .cell||X.env.kindOf n==some .free)=true
theorem dF.frees{X:Cx}{scope:Scope}{fr:List Str}(S:dF X scope fr):∀n∈bG scope.names,X.env.kindOf n=some .cell\/X.env.kindOf n=some .free:=λn hn=>by
 have h:=ji.mp S.kinds n (S.sub n hn);rcases Bool.or_eq_true _ _▸h with h|h
 .exact .inl (g_ h)
 .exact .inr (g_ h)
theorem pW{x:Str}:∀{names:List (Str×NameKind)},(x,NameKind.free)∈names->x∈bG names
 |(n,k)::r,h=>by
  unfold bG;rcases aW.mp h with e|e
  .injection e with a b
   subst a b;rw[ao (by rfl)];exact bJ
  .split
   .exact bE _ (pW e)
   .exact pW e
theorem AI{env:Env}{x:Str}:∀{names:List (Str×NameKind)} {k:NameKind},(names.map λ(n,k)=>if (k==NameKind.free&&env.scope.kind== .function&&env.kindOf n==some .cell) then (n,NameKind.cell) else (n,k)).lookup x=some k->
  ∃k0,names.lookup x=some k0/\(k=k0\/(k0=.free/\k=.cell))
 |[],k,h=>by simp at h
 |(n,k1)::r,k,h=>by
  rw[eB] at h;by_cases b:(x==n)=true
  .by_cases hc:(k1==NameKind.free&&env.scope.kind== .function&&env.kindOf n==some .cell)=true
   .dsimp only at h
    rw[ao hc,lookup_cons,b] at h;have e:k=.cell:=by injection h with h;exact h.symm
    have c:k1=.free:=by
     have:=(bZ _ _▸(bZ _ _▸hc).1).1;exact g_ this
    exact⟨k1,by rw[lookup_cons,b],.inr ⟨c,e⟩⟩
   .dsimp only at h
    rw[av hc,lookup_cons,b] at h;injection h with h;exact⟨k1,by rw[lookup_cons,b],.inl h.symm⟩
  .have a:(x==n)=false:=by simpa using b
   have h':(List.map (λ(n,k)=>if (k==NameKind.free&&env.scope.kind== .function&&env.kindOf n==some .cell) then (n,NameKind.cell) else (n,k)) r).lookup x=some k:=by
    by_cases hc:(k1==NameKind.free&&env.scope.kind== .function&&env.kindOf n==some .cell)=true
    .dsimp only at h;rw[ao hc,lookup_cons,a] at h;exact h
    .dsimp only at h;rw[av hc,lookup_cons,a] at h;exact h
   obtain⟨k0,c,d⟩:=AI h';exact⟨k0,by rw[lookup_cons,a];exact c,d⟩
theorem AH{env:Env}{x:Str}:∀{names:List (Str×NameKind)},names.lookup x=some .free->
  (names.map λ(n,k)=>if (k==NameKind.free&&env.scope.kind== .function&&env.kindOf n==some .cell) then (n,NameKind.cell) else (n,k)).lookup x=some .cell\/
  (names.map λ(n,k)=>if (k==NameKind.free&&env.scope.kind== .function&&env.kindOf n==some .cell) then (n,NameKind.cell) else (n,k)).lookup x=some .free
 |[],h=>by simp at h
 |(n,k1)::r,h=>by
  rw[eB]
  by_cases b:(x==n)=true
  .rw[lookup_cons,b] at h
   injection h with h
   subst h
   by_cases hc:(NameKind.free==NameKind.free&&env.scope.kind== .function&&env.kindOf n==some .cell)=true
   .left;dsimp only;rw[ao hc,lookup_cons,b]
   .right;dsimp only;rw[av hc,lookup_cons,b]
  .have a:(x==n)=false:=by simpa using b
   rw[lookup_cons,a] at h
   have c:=AH (env:=env) h
   by_cases hc:(k1==NameKind.free&&env.scope.kind== .function&&env.kindOf n==some .cell)=true
   .dsimp only;rw[ao hc,lookup_cons,a];exact c
   .dsimp only;rw[av hc,lookup_cons,a];exact c
structure CP where
 C:Addr
 s:Shared
 H:Hp
 pins:aO
 fp:List Addr
def bD(X:Cx)(NC:List Str)(scope:Scope)(c:CP):Cx where
 prog:=X.prog
 w:=X.w
 K:=X.K
 mg:=X.mg
 base:=X.base
 A:=X.A
 N:=NC
 s₀:=c.s
 H₀:=c.H
 env:=compEnvC scope (cellsFrom (c.C+1) scope.names (cE X.env scope.names [])) c.C X.env
 outer:=X.stack
 stack:=X.stack
 ex:=c.fp
 fn:=λx=>scope.names.lookup x==some .cell
 calm:=true
 pn:=X.pn++c.pins
 xe:=λ_ _=>False
section
variable{X:Cx}{scope:Scope}{frees:List Str}{NC:List Str}{pins:aO}{σ lT:St}{H H':Hp}{s s':Shared}{fp:List Addr}{C:Addr}
theorem dF.has(S:dF X scope frees)(ok:X.Ok):∀n∈bG scope.names,∃c,X.env.cells.lookup n=some c:=λn hn=>ok.has n (S.frees n hn)
theorem dF.mj(S:dF X scope frees)(ok:X.Ok){x:Str}{c:Addr}(h:(cE X.env scope.names []).lookup x=some c):x∈bG scope.names/\X.env.cells.lookup x=some c:=by
 rw[mq scope.names [] (S.has ok)] at h;by_cases a:x∈bG scope.names
 .rw[ao a] at h;exact⟨a,h⟩
 .rw[av a] at h;simp at h
theorem dF.cells(S:dF X scope frees)(ok:X.Ok){x:Str}{c:Addr}{n:Nat}(h:(cellsFrom n scope.names (cE X.env scope.names [])).lookup x=some c):n<=c\/(x∈bG scope.names/\X.env.cells.lookup x=some c):=
 (sH _ _ _ h).imp And.left (S.mj ok)
theorem dF.jH(S:dF X scope frees){x:Str}(h:(x,NameKind.cell)∈scope.names)(a:x∈bG scope.names):False:=by
 have h1:=S.DT _ h rfl;rw[S.free x (S.sub x a)] at h1;cases h1
theorem Ea(S:dF X scope frees)(hc:X.calm=true)(I:Inv X pins σ H s)(d:∀b∈fp,eE X pins H b/\b<s.heap.objs.size)(g:C=s.heap.objs.size):(bD X NC scope ⟨C,s,H,pins,fp⟩).Ok where
 mod:=I.ok.mod
 kind:=S.kind
 glob:=I.ok.glob
 blt:=I.ok.blt
 above:=by show s.heap.objs.size<=C;rw[g];exact aI _
 inj:=sG _ _ _ (λx y c h1 h2=>I.ok.inj x y c (S.mj I.ok h1).2 (S.mj I.ok h2).2) λx c h=>by
  obtain⟨v,q⟩:=I.cell x c (S.mj I.ok h).2
  rw[g]
  exact fj q.lt
 has:=λx p=>by
  have l:∃k,(relabel scope X.env).names.lookup x=some k/\(k= .cell\/k= .free):=by
   rcases p with h|h
   .exact⟨_,h,.inl rfl⟩
   .exact⟨_,h,.inr rfl⟩
  obtain⟨k,h,hk⟩:=l
  obtain⟨k0,r,f⟩:=AI h
  have j:=jh r
  have m:k0= .free\/k0= .cell:=by
   rcases f with f|⟨f,_⟩
   .rcases hk with hk|hk
    .exact .inr (f▸hk)
    .exact .inl (f▸hk)
   .exact .inl f
  refine sF _ _ _ ?_
  rcases m with rfl|rfl
  .have i:=pW j
   obtain⟨c,n⟩:=S.has I.ok x i
   exact .inl ⟨c,by rw[mq scope.names [] (S.has I.ok),ao i];exact n⟩
  .exact .inr j
 oU:=λx c h h2=>by
  have j:(x,NameKind.cell)∈scope.names:=jh (g_ h)
  show s.heap.objs.size<=c
  rcases S.cells I.ok h2 with z|⟨z,_⟩
  .rw[g] at z
   exact Nat.le_of_succ_le z
  .exact(S.jH j z).elim
 hd:=λ_=>I.ok.hd hc
 frames:=I.ok.frames
 stk:= .inl rfl
 FF:=λb a=>⟨λz=>by have:=(d b a).2;rw[z] at this;exact absurd (g▸this) (eZ _),λx c h=>by
  rcases S.cells I.ok h with z|⟨_,z⟩
  .exact je (cB (d b a).2 (Nat.le_of_succ_le (g▸z:s.heap.objs.size+1<=c)))
  .exact(d b a).1.2.2.2.2.1 x c z⟩
 bs:=I.bs
 jv:=cM I.ok.jv I.sz
 p8:=λb o e a=>by
  rcases (d b a).1.2.2.2.1 with z|z
  .exact I.ok.p8 b o e z
  .exact absurd (cB (aQ e) (cM I.ok.jv z)) (eZ _)
 s9:=λb a z=>by
  rcases aW.mp (I.lz b z) with e|e
  .exact(d b a).1.2.1 e
  .exact(d b a).1.2.2.1 e
 gI:=I.stack
 kN:=I.u_
def stC(own:List Str)(ix:List Nat)(σ:St):St:=own.map (λ_=>none)++ix.map λi=>(σ[i]?).join
theorem Mc{own frees:List Str}{ix:List Nat}{σ:St}{b:List Str}(c:ix.map (λi=>b[i]?)=frees.map some){j:Nat}{x:Str}{v:V}(h1:(own++frees)[j]?=some x)(h2:(stC own ix σ)[j]?=some (some v)):
  x∈frees/\∃i:Nat,b[i]?=some x/\σ[i]?=some (some v):=by
 have f:ix.length=frees.length:=by have:=cz List.length c;simpa using this
 unfold stC at h2;by_cases d:j<own.length
 .rw[ic (by simpa using d),dP] at h2
  cases e:own[j]? with
  |none=>rw[e] at h2;simp at h2
  |some o=>rw[e] at h2;simp at h2
 .rw[jZ (by simpa using d),dP,bB] at h2
  rw[jZ (by omega)] at h1;have a:(ix.map (λi=>b[i]?))[j - own.length]?=(frees.map some)[j - own.length]? :=by rw[c]
  rw[dP,dP,h1] at a;cases e:ix[j - own.length]? with
  |none=>rw[e] at h2;simp at h2
  |some i=>
   rw[e] at h2 a;simp only[map_some,Option.some.injEq] at h2 a;refine⟨vI h1,i,a,?_⟩;cases q:σ[i]? with
   |none=>rw[q] at h2;simp at h2
   |some o=>rw[q] at h2;simp at h2;rw[h2]
theorem Me{own frees:List Str}{ix:List Nat}{σ:St}{a:List Str}(b:ix.map (λi=>a[i]?)=frees.map some):(stC own ix σ).length=(own++frees).length:=by
 have c:ix.length=frees.length:=by have:=cz List.length b;simpa using this
 unfold stC;simp[c]
theorem D_{own:List Str}{ix:List Nat}{a:Heap}{tk:Nat}(S:dF X scope frees)(hc:X.calm=true)(I:Inv X pins σ H s)(G:∀b∈fp,eE X pins H b/\b<s.heap.objs.size)(t:C=s.heap.objs.size)
  (E:ix.map (λi=>X.N[i]?)=frees.map some)(w:∃m,a.Ns C m)(hk:∀b o,s.heap.get? b=some o->a.get? b=some o)
  (y:∀x c,(cellsFrom (C+1) scope.names (cE X.env scope.names [])).lookup x=some c->(cE X.env scope.names []).lookup x=some c\/(C+1<=c/\a.IsCell c none)):
  Inv (bD X (own++frees) scope ⟨C,s,H,pins,fp⟩) [] (stC own ix σ) H {s with heap:=a,toks:=tk}:=by
 obtain⟨m,J⟩:=w
 refine⟨Ea S hc I G t,rfl,I.bare,Un.kept hk,⟨m,J,λj x v h1 h2 h3=> ?_⟩,λx c h=> ?_,?_,λx c h=> ?_,λp K=> ?_,I.hok.kept hk,Me E⟩
 .obtain⟨L,i,M,O⟩:=Mc E h1 h2
  have f:=S.free x L
  have g:=pW (jh f)
  have k:=S.frees x g
  obtain⟨m0,_,P⟩:=I.loc
  have A:kh X.env.scope x:=by rcases k with z|z;exact .inr (.inl z);exact .inr (.inr z)
  obtain⟨u,r,l⟩:=P i x v M O A
  refine⟨u,r,?_⟩
  rcases l with⟨F,_⟩|⟨_,c,Q,R⟩
  .rcases k with z|z
   .rw[F] at z;cases z
   .rw[F] at z;cases z
  .refine .inr ⟨AH (env:=X.env) f,c,?_,?_⟩
   .show(cellsFrom _ scope.names (cE X.env scope.names [])).lookup x=some c
    rw[sI _ _ _ λz=>S.jH z g,mq scope.names [] (S.has I.ok),ao g]
    exact Q
   .obtain⟨o,B,hd⟩:=R
    exact⟨o,hk _ _ B,hd⟩
 .rcases y x c h with h|h
  .obtain⟨_,e⟩:=S.mj I.ok h
   obtain⟨v,o,B,hd⟩:=I.cell x c e
   exact⟨v,o,hk _ _ B,hd⟩
  .exact⟨none,h.2⟩
 .show H C=none
  rw[t]
  exact I.hok.fresh (aI _)
 .rcases S.cells I.ok h with z|⟨_,z⟩
  .refine I.hok.fresh ?_
   have z:s.heap.objs.size+1<=c:=t▸z
   omega
  .exact I.iD x c z
 .have D:p∈X.pn++pins:=by
   have:p∈(X.pn++pins)++[]:=K
   rwa [gW] at this
  obtain⟨e,n,ne,T,d⟩:=I.pin p D
  refine⟨hk _ _ e,n,?_,λz=> ?_,d⟩
  .show p.1≠C
   rw[t]
   exact bq (aQ e)
  .rcases aW.mp (I.lz p.1 z) with q|q
   .exact ne q
   .exact T q
theorem D8{NC:List Str}(S:dF X scope frees)(I:Inv X pins σ H s)(d:∀b∈fp,eE X pins H b/\b<s.heap.objs.size)(e:C=s.heap.objs.size){b:Addr}(a:b∈fp)(hn:H' b=none):eE (bD X NC scope ⟨C,s,H,pins,fp⟩) [] H' b:=by
 refine⟨hn,?_,λz=>?_,.inl a,λx c h=>by
  rcases S.cells I.ok h with z|⟨_,z⟩
  .exact je (cB (d b a).2 (Nat.le_of_succ_le (e▸z:s.heap.objs.size+1<=c)))
  .exact(d b a).1.2.2.2.2.1 x c z,λp f=>(d b a).1.2.2.2.2.2 p ?_⟩
 .show b≠C
  rw[e];exact bq (d b a).2
 .rcases aW.mp (I.lz b z) with q|q
  .exact(d b a).1.2.1 q
  .exact(d b a).1.2.2.1 q
 .have:p∈(X.pn++pins)++[]:=f
  rwa [gW] at this
theorem D7{NC:List Str}(I:Inv X pins σ H s)(a:∀b∈fp,eE X pins H b/\b<s.heap.objs.size)(J:Inv (bD X NC scope ⟨C,s,H,pins,fp⟩) [] lT H' s'):Inv X pins σ H' s':=
 I.DB J.os J.base J.hok J.bare λb c=>⟨(a b c).1.2.2.2.1,(a b c).1.2.1,(a b c).1.2.2.2.2.1,(a b c).1.2.2.2.2.2⟩
theorem D9{h':Heap}(I:Inv X pins σ H s)(hn:H C=none)(h1:C≠X.env.locals)(h2:X.s₀.heap.objs.size<=C)(h3:∀x c,X.env.cells.lookup x=some c->c≠C)(a:∀p∈X.pn++pins,p.1≠C)(d:SameBut C s.heap h'):
 Inv X pins σ H {s with heap:=h'}:=I.turned (t':=s.toks) (λb o f e=>(d.2 b f).trans e) hn h1 (.inr h2) h3 a
end
inductive eF:St->St->Prop
 |nil:eF [] []
 |own {o:Option V} {a b:St}:eF a b->eF (none::a) (o::b)
 |keep {o:Option V} {a b:St}:eF a b->eF (o::a) (o::b)
theorem eF.len:∀{a b:St},eF a b->b.length=a.length
 |_,_,.nil=>rfl
 |_,_,.own h=>cz (·+1) h.len
 |_,_,.keep h=>cz (·+1) h.len
theorem eF.get:∀{a b:St},eF a b->∀(i:Nat) v,a[i]?=some (some v)->b[i]?=some (some v)
 |_,_,.nil,i,v,e=>by simp at e
 |_,_,.own h,0,v,e=>by simp at e
 |_,_,.own h,i+1,v,e=>by
  rw[vF] at e ⊢;exact h.get i v e
 |_,_,.keep h,0,v,e=>by simpa using e
 |_,_,.keep h,i+1,v,e=>by
  rw[vF] at e ⊢;exact h.get i v e
theorem eF.refl:∀a:St,eF a a
 |[]=>.nil
 |_::r=>.keep (eF.refl r)
inductive gC(X:Cx):List Expr->TT->Prop
 |nil:gC X [] (λ_ H Q=>Q true H)
 |one {c:Expr} {t:TT}:PT X c t->gC X [c] t
theorem gC.run{X:Cx}{ifs:List Expr}{t:TT}(h:gC X ifs t){pins:aO}{s:Shared}{σ:St}{H:Hp}{Q:Bool->Hp->Prop}(I:Inv X pins σ H s)(a:t σ H Q):
  wpAny (model X.prog X.w) X.A (forIn ifs true λc r=>if r=true then do let ok <-isTrue c X.env (eval c X.env);pure (ForInStep.yield ok) else pure (ForInStep.yield r)) (TP X pins σ Q) X.xe s:=by
 cases h with
 |nil=>exact wpAny_tests_nil ⟨H,I,a⟩
 |one h=>exact wpAny_tests_one (h pins s σ H Q I a)
def Dw(lT:St)(acc:Addr)(g:TG)(tt:TT)(te:TE)(x:V)(ys:List V)(H:Hp)(N:List V->Hp->Prop):Prop:=
 g x lT H λσ2 H2=>eF lT σ2/\tt σ2 H2 λb H3=>if b=true then te σ2 H3 λy H4=>H4 acc=some (.lst ys)/\ys.length<sizeLine/\N (ys++[y]) (upd H4 acc (.lst (ys++[y]))) else N ys H3
def sA(J:It)(lT:St)(acc:Addr)(g:TG)(tt:TT)(te:TE)(H:Hp)(Q:VK):Prop:=
 ∃W:Nat->Nat->List V->Hp->Prop,(∃m,W 0 m [] H)/\∀i m ys H,W i m ys H->H acc=some (.lst ys)/\
  ((J.stop i H/\Q (.ref acc) H)\/(J.go i H/\∃N:List V->Hp->Prop,(∀ys' H',N ys' H'->∃m',m'<m/\W (i+1) m' ys' H')/\∀x H',J.qX i H x H'->Dw lT acc g tt te x ys H' N))
def ve(own:List Str)(ix:List Nat)(wi:TI)(g:CP->TG)(tt:CP->TT)(te:CP->TE):TE:=λσ H Q=>
 wi σ H λJ H1=>∀(c:CP) (acc:Addr),H1 acc=none->sA J (stC own ix σ) acc (g c) (tt c) (te c) (upd H1 acc (.lst [])) Q
section
variable{X:Cx}{scope:Scope}{own frees:List Str}{ix:List Nat}{tg elt iter:Expr}{ifs:List Expr}{pos:Pos}{wi:TI}{g:CP->TG}{tt:CP->TT}{te:CP->TE}
theorem DV{J:It}{it acc:Addr}{fp:List Addr}{E:Nat->Heap->Prop}{c:CP}{σ:St}{H:Hp}{s:Shared}{Q:VK}{R:Result->Shared->Prop}
  (hfp:c.fp=fp)(T:Turn X.prog X.w X.K tg J fp it E)(hg:PG (bD X (own++frees) scope c) tg (g c))(ht:gC (bD X (own++frees) scope c) ifs (tt c))(he:PE (bD X (own++frees) scope c) elt (te c))
  (j:∀b∈fp,∀H':Hp,H' b=none->eE (bD X (own++frees) scope c) [] H' b)
  (I:Inv (bD X (own++frees) scope c) [] (stC own ix σ) H s)(st:E 0 s.heap)(fr:∀b∈fp,H b=none)(h:sA J (stC own ix σ) acc (g c) (tt c) (te c) H Q)
  (hR:∀s' H',Inv (bD X (own++frees) scope c) [] (stC own ix σ) H' s'->Q (.ref acc) H'->R (.ok .next) s'):
  codeAny (model X.prog X.w) X.A (.compLoop (.ListComp elt [⟨tg,iter,ifs,0⟩] scope pos) 0 (.ref it) (.ref acc) (bD X (own++frees) scope c).env) R s:=by
 obtain⟨W,⟨m0,w0⟩,turn⟩:=h
 refine codeAny_loop rfl (λn s'=>∃i ys H',Inv (bD X (own++frees) scope c) [] (stC own ix σ) H' s'/\E i s'.heap/\(∀b∈fp,H' b=none)/\W i n ys H') (λn M hI=> ?_) m0 ⟨0,[],H,I,st,fr,w0⟩
 obtain⟨i,ys,H1,I1,p,v,w1⟩:=hI
 show wpAny _ X.A ((compTurn (.ListComp elt [⟨tg,iter,ifs,0⟩] scope pos) 0 (.ref it) (.ref acc) (bD X (own++frees) scope c).env).onRaise (λx=>do noteFrame x (bD X (own++frees) scope c).env;theTreesLotGoes x)) _ _ M
 have k:∀{α:Type} {t:Sem α} {P:α->Shared->Prop} {s:Shared},wpAny (model X.prog X.w) X.A t P (λ_ _=>False) s->wpAny (model X.prog X.w) X.A t P (notedBy (model X.prog X.w) X.A (bD X (own++frees) scope c).env λe s'=>R (.error e) s') s:=
  λh=>jV h (λ_ _ q=>q) λ_ _ z=>z.elim
 refine wpAny_noted ?_
 rw[compTurn_list]
 obtain⟨ha,hw⟩:=turn i n ys H1 w1
 rcases hw with⟨stop,q⟩|⟨go,N,hN,step⟩
 .refine ah (rC (ah (k (aJ (T.done (bD X (own++frees) scope c) rfl rfl rfl rfl i [] M _ H1 (λ_ _=>False) I1 (λb f=>j b f H1 (v b f)) p stop) λr s2 ⟨O,I2⟩=> ?_))))
  subst O
  exact aB (hR s2 H1 I2 q)
 .refine ah (rC (ah (k (aJ (T.item (bD X (own++frees) scope c) rfl rfl rfl rfl i [] M _ H1 (λ_ _=>False) I1 (λb f=>j b f H1 (v b f)) p go) λr s2 ⟨u,O,h2⟩=> ?_))))
  subst O
  refine ah (k (aJ h2 λ_ s3 ⟨x,S,I3,r3,y3,l,U⟩=> ?_))
  have V:=I3.pinned (λb f=>j b f S (U b f)) (T.obj _ _ l)
  refine ah (k (aJ (hg _ s3 _ S x u _ V r3 (step x S y3)) λ_ s4 ⟨Nu,H4,I4,F,q4⟩=> ?_))
  refine ah (k (aJ (ht.run I4 q4) λok s5 ⟨H5,Y,G⟩=> ?_))
  have a:∀{B:Shared} {C:St} {m:Hp},Inv (bD X (own++frees) scope c) ([]++nj fp s3.heap) C m B->E (i+1) B.heap/\∀b∈fp,m b=none:=λ {B C m} D=>
   ⟨T.keep _ _ _ l λb f o e=>(D.pin (b,o) (fk _ (fk _ (pX f e)))).1,λb f=>by
    obtain⟨o,e,d⟩:=T.obj _ _ l b f
    exact(D.pin (b,o) (fk _ (fk _ (pX f e)))).2.1⟩
  cases ok with
  |false=>
   rw[av (by decide)] at G
   obtain⟨Z,hm,w5⟩:=hN _ _ G
   obtain⟨k1,k2⟩:=a Y
   exact aB ⟨rfl,Z,hm,i+1,ys,H5,(Y.nM).weak F.len.symm F.get,k1,k2,w5⟩
  |true=>
   rw[ao rfl] at G
   refine ah (ah (k (aJ (he _ s5 _ H5 _ Y G) λy B ⟨L,m,D,r6,a6,l6,q6⟩=> ?_)))
   obtain⟨Z,hm,w6⟩:=hN _ _ q6
   obtain⟨k1,k2⟩:=a D
   refine ah (k (aJ (m5 (X:=bD X (own++frees) scope c) _ B _ m (.ref acc) [L] (.ref acc) [y] (λ_ H7=>H7=upd m acc (.lst (ys++[L]))) D rfl (.cons r6 .nil) ⟨acc,ys,L,rfl,rfl,a6,l6,rfl⟩) λ_ s7 ⟨_,H7,I7,_,e7⟩=> ?_))
   subst e7
   obtain⟨k1,k2⟩:=a I7
   exact aB (aB ⟨rfl,Z,hm,i+1,ys++[L],_,(I7.nM).weak F.len.symm F.get,k1,k2,w6⟩)
structure rK(X:Cx)(pins:aO)(C:Addr)(H:Hp):Prop where
 no:H C=none
 loc:C≠X.env.locals
 old:X.s₀.heap.objs.size<=C
 fz:∀x c,X.env.cells.lookup x=some c->c≠C
 pin:∀p∈X.pn++pins,p.1≠C
theorem rK.inv{pins:aO}{σ:St}{H:Hp}{s:Shared}{C:Addr}{h':Heap}(G:rK X pins C H)(I:Inv X pins σ H s)(a:SameBut C s.heap h'):Inv X pins σ H {s with heap:=h'}:=
 D9 I G.no G.loc G.old G.fz G.pin a
theorem xO{pins:aO}{σ:St}{H:Hp}{s:Shared}{Q:VK}{D:Value->Addr->Result->Shared->Prop}{E:aF}{J:It}{it:Addr}{fp:List Addr}{F:Nat->Heap->Prop}
  (S:dF X scope frees)(hc:X.calm=true)(W:ix.map (λi=>X.N[i]?)=frees.map some)
  (Y:∀c,PG (bD X (own++frees) scope c) tg (g c))(Z:∀c,gC (bD X (own++frees) scope c) ifs (tt c))(he:∀c,PE (bD X (own++frees) scope c) elt (te c))
  (I:Inv X pins σ H s)(T:Turn X.prog X.w X.K tg J fp it F)(st:F 0 s.heap)(R:∀b∈fp,eE X pins H b)
  (h:∀(c:CP) (acc:Addr),H acc=none->sA J (stC own ix σ) acc (g c) (tt c) (te c) (upd H acc (.lst [])) Q)
  (G:∀(acc C:Addr) s' H' m,Inv X pins σ H' s'->s'.heap.Ns C m->rK X pins C H'->Q (.ref acc) H'->D (.ref acc) C (.ok .next) s'):
  wpAny (model X.prog X.w) X.A (newList []) (λacc u=>wpAny (model X.prog X.w) X.A (newFunctionEnv scope X.env.globals (cE X.env scope.names []) [] X.env.qual none .none (some X.env)) (λl y=>
   codeAny (model X.prog X.w) X.A (.compStart (.ListComp elt [⟨tg,iter,ifs,0⟩] scope pos) 0 (.ref it) acc {l with scope:=relabel scope X.env}) (D acc l.locals) y) E u) E s:=by
 refine eu (Nn ?_)
 dsimp only
 have L:H s.heap.objs.size=none:=I.hok.fresh (aI _)
 have n:Inv X pins σ (upd H s.heap.objs.size (.lst [])) {s with heap:=s.heap.push {cls:= .type "list",data:= .seq ([]:List Value).toArray}}:=I.zF (its:=[]) (t':=s.toks) .nil (c5 _)
 generalize r:({s with heap:=s.heap.push {cls:= .type "list",data:= .seq ([]:List Value).toArray}}:Shared)=d at n
 have U:d.heap=s.heap.push {cls:= .type "list",data:= .seq ([]:List Value).toArray}:=by rw[<-r]
 have V:∀b∈fp,b<s.heap.objs.size:=λb j=>by
  obtain⟨o,e,_⟩:=T.obj _ _ st b j
  exact aQ e
 have sz:d.heap.objs.size=s.heap.objs.size+1:=by rw[U,cS]
 have k:∀b∈fp,eE X pins (upd H s.heap.objs.size (.lst [])) b/\b<d.heap.objs.size:=λb j=>
  ⟨⟨by rw[bA (bq (V b j))];exact(R b j).1,(R b j).2⟩,by rw[sz];exact fj (V b j)⟩
 obtain⟨a,B⟩:∃a,a=pushCells (d.heap.push {cls:= .type "dict",data:= .dict #[]}) scope.names:=⟨_,rfl⟩
 have kp:∀b o,d.heap.get? b=some o->a.get? b=some o:=λb o e=>by
  rw[B]
  exact pushCells_keeps _ _ b o (bw _ e)
 have M:∃m,a.Ns d.heap.objs.size m:=by
  rw[B]
  exact⟨_,(Heap.Ns.new d.heap (.type "dict")).keeps (pushCells_keeps _ _)⟩
 have cl:∀x c,(cellsFrom (d.heap.objs.size+1) scope.names (cE X.env scope.names [])).lookup x=some c->(cE X.env scope.names []).lookup x=some c\/(d.heap.objs.size+1<=c/\a.IsCell c none):=λx c e=>by
  have:=uD (x:=x) (c:=c) scope.names (d.heap.push {cls:= .type "dict",data:= .dict #[]}) (cE X.env scope.names []) (by rw[cS];exact e)
  rw[cS,<-B] at this
  exact this
 have J0:Inv (bD X (own++frees) scope ⟨d.heap.objs.size,d,upd H s.heap.objs.size (.lst []),pins,fp⟩) [] (stC own ix σ) (upd H s.heap.objs.size (.lst [])) {d with heap:=a}:=
  D_ (tk:=d.toks) S hc n k rfl W M kp cl
 have O:∀b∈fp,∀H':Hp,H' b=none->eE (bD X (own++frees) scope ⟨d.heap.objs.size,d,upd H s.heap.objs.size (.lst []),pins,fp⟩) [] H' b:=λb j H' hn=>D8 S n k rfl j hn
 have t:F 0 a:=T.keep _ _ _ st λb j o e=>kp b o (by rw[U];exact bw _ e)
 have loop:codeAny (model X.prog X.w) X.A (.compLoop (.ListComp elt [⟨tg,iter,ifs,0⟩] scope pos) 0 (.ref it) (.ref s.heap.objs.size) (bD X (own++frees) scope ⟨d.heap.objs.size,d,upd H s.heap.objs.size (.lst []),pins,fp⟩).env)
   (D (.ref s.heap.objs.size) d.heap.objs.size) {d with heap:=a}:=by
  refine DV rfl T (Y _) (Z _) (he _) O J0 t (λb j=>(k b j).1.1) (h _ _ L) λs' H' P q=> ?_
  obtain⟨m,hm,_⟩:=P.loc
  refine G _ _ s' H' m (D7 n k P) hm ⟨P.free,je n.lt,n.sz,λx c e z=> ?_,λp hp z=> ?_⟩ q
  .obtain⟨v,q⟩:=n.cell x c e
   exact absurd (cB q.lt (by rw[z];exact aI _)) (eZ _)
  .exact absurd (cB (aQ (n.pin p hp).1) (by rw[z];exact aI _)) (eZ _)
 have f:=loop
 rw[B,<-r] at f
 exact codeAny_compStart_list f (T.self _ 0 _ _ _ (by rw[B,<-r] at t;exact t) f)
theorem JT(hi:PI X tg iter wi)
  (d:∀c,PG (bD X (own++frees) scope c) tg (g c))(f:∀c,gC (bD X (own++frees) scope c) ifs (tt c))(j:∀c,PE (bD X (own++frees) scope c) elt (te c))(S:dF X scope frees:=by exact⟨rfl,by decide+kernel,by decide+kernel,by decide+kernel,by decide+kernel,rfl⟩)(hc:X.calm=true:=by rfl)(k:ix.map (λi=>X.N[i]?)=frees.map some:=by rfl)(l:∀x,foldedSetIterable iter X.env x=pure x:=by intro _;rfl):
  PE X (.ListComp elt [⟨tg,iter,ifs,0⟩] scope pos) (ve own ix wi g tt te):=by
 intro pins s σ H Q I h;rw[eval_ListComp];refine wpAny_comprehension_free (use:=none) rfl l (xN (S.has I.ok)) S.kind S.locs (aJ (hi pins s σ H _ I h) λv u h1=>aJ h1 λn w h2=>?_);obtain⟨it,fp,y,J,H2,e,o,T,a,f2,p⟩:=h2;subst e;refine xO S hc k d f j o T a f2 p λacc C s' H' m r t G q=>?_;exact⟨m,t,λh' b=>⟨.ref acc,H',G.inv r b,rfl,q⟩⟩
theorem Kq{i:Nat}{x:Str}{pos' spos:Pos}(b:X.N.Nodup)(d:X.N[i]? =some x)(o:Loc X.env.scope x)(hi:PI X tg iter wi)
  (p:∀c,PG (bD X (own++frees) scope c) tg (g c))(r:∀c,gC (bD X (own++frees) scope c) ifs (tt c))(t:∀c,PE (bD X (own++frees) scope c) elt (te c))(S:dF X scope frees:=by exact⟨rfl,by decide+kernel,by decide+kernel,by decide+kernel,by decide+kernel,rfl⟩)(hc:X.calm=true:=by rfl)(u:ix.map (λi=>X.N[i]?)=frees.map some:=by rfl)(w:∀x,foldedSetIterable iter X.env x=pure x:=by intro _;rfl)
  (f:swapsWith (.ListComp elt [⟨tg,iter,ifs,0⟩] scope pos) (some (.Name x pos')) spos.line X.env=pure true:=by rfl)(y:X.fn x=true\/X.env.scope.names.lookup x=some .local:=by first|exact .inl rfl|exact .inr rfl|assumption):
  PS X (.Assign [.Name x pos'] (.ListComp elt [⟨tg,iter,ifs,0⟩] scope pos) spos) (Cb (ve own ix wi g tt te) (kO i)):=by
 intro pins s σ H D I h
 rw[exec_Assign_Name_used _ _ _ _ f]
 refine ah (rC (ah ?_))
 show wpAny _ X.A (do let _ <-comprehension (.ListComp elt [⟨tg,iter,ifs,0⟩] scope pos) scope X.env _ (newList []) false (eval iter X.env) (some (assign (.Name x pos') X.env))) _ _ s
 refine ah (jV (wpAny_comprehension_free (use:=some (assign (.Name x pos') X.env)) (Q:=λ_ s'=>SP X pins D .next s') rfl w (xN (S.has I.ok)) S.kind S.locs
  (aJ (hi pins s σ H _ I h) λv P h1=>aJ h1 λz B h2=> ?_)) (λ_ s' E=>aB (aB E)) λ_ _ e=>e)
 obtain⟨it,fp,R,J,H2,e,F,T,j,f2,K⟩:=h2
 subst e
 refine xO S hc u p r t F T j f2 K λacc C s' H' m L M G q=> ?_
 show wpAny _ X.A (assign (.Name x pos') X.env (.ref acc)) _ _ _
 refine wpAny_assign_Name (B3 L b d o (v:= .ref acc) rfl (λB k ch=> ?_) y)
 obtain⟨a,sb,O⟩:=ch
 have l:C≠a:=by
  rcases O with e|e
  .rw[e];exact G.loc
  .exact(G.fz _ _ e).symm
 exact⟨m,M.sameBut sb l,λh' n=>⟨_,H',G.inv k n,q⟩⟩
end
section
variable{X:Cx}
theorem xF:∀{bs:List Bool} {its:List Value},Vals (bs.map V.bl) its->LSm.BoolsAre its bs
 |[],_,.nil=>.nil
 |b::r,_,.cons q t=>by
  cases q;exact .cons b (xF t)
theorem mh(hc:X.calm=true):cV X (.builtin "all") (λxs H Q=>∃(p:Addr) (bs:List Bool),xs=[.ref p]/\aZ X.K H p (bs.map V.bl)/\Q (.bl (bs.all id)) H):=by
 intro pins s σ H xs n Q I r h;obtain⟨p,bs,rfl,j,q⟩:=h;obtain⟨u,rfl,ru⟩:=vals1 r;cases ru;obtain⟨a,k,l,o⟩:=I.list j;have f:=xF k;have c:=l.isList;have d:p<s.heap.objs.size:=by obtain⟨_,e,_⟩:=c;exact aQ e
 refine call_all_walk (nW c ?_);refine⟨s.heap.objs.size,[s.heap.objs.size,p],[s.heap.objs.size],a.toArray.size,_,_,λi=>(bs[i]?).getD true,rfl,Walks.list (A:=X.A.in1) (I.ok.hd hc) _ p (bq d) a.toArray,
  ⟨⟨_,bK _ rfl,rfl,rfl⟩,c.push _⟩,λi v s' t w m g=>?_,λh' tk hk=>?_⟩
 .obtain⟨b,e,rfl⟩:=f.get i v (by simpa using m)
  simp only[e,getD_some] at g;exact jg g
 .have e:((range a.toArray.size).all λi=>(bs[i]?).getD true)=bs.all id:=by
   rw[bY,f.length];exact LSm.range_all bs
  rw[e];exact⟨.bl _,H,I.kept (h':=h') (t':=tk) (LSm.kept_iter hk),rfl,q⟩
def rP(y:Str):It:=⟨λi _=>i<y.cps.size,λi H x H'=>H'=H/\∃c,y.cps[i]?=some c/\x=.str ⟨#[c]⟩,λi _=>i=y.cps.size⟩
theorem M8{P:Program}{w:World}{K:Frag}{nm:Str}{px:Pos}{ty:String}{y:Str}{t:Tok}(it:Addr)
  (W:∀A:Around,A.handled=none->Walks P w A it [it] [it] y.cps.size (SignAt y) (λi h=>h.IsStrIter it ty y t i))
  (C:∀(A:Around) (i:Nat) (s:Shared) (Q:aF) (E:aF),s.heap.IsStrIter it ty y t i->Q (.ref it) s->wpAny (model P w) A (pyIter (.ref it)) Q E s):Turn P w K (.Name nm px) (rP y) [it] it (λi h=>h.IsStrIter it ty y t i) where
 mem:=by simp
 obj:=λi h st b a=>by
  have e:b=it:=by simpa using a
  subst e
  obtain⟨o,e,c,d⟩:=st
  exact⟨o,e,λv z=>by rw[d] at z;cases z⟩
 keep:=λi h h' st k=>let ⟨o,D,r⟩:=st;⟨o,k it (by simp) o D,r⟩
 item:=by
  intro X f j l hc i pins s σ H E I g st m
  subst f j l
  obtain⟨f0,f1,f2,n,f4,p⟩:=g it (by simp)
  refine(W X.A (I.ok.hd hc)).item i s _ _ m st λv h' tk f q hk=> ?_
  obtain⟨c,u,x,rfl⟩:=f
  have F:Inv X pins σ H {s with heap:=h',toks:=tk}:=I.turned (λb o a e=>hk b o (by simpa using a) e) f0 f1 n f4 p
  exact⟨_,rfl,aB ⟨.str ⟨#[c]⟩,H,F,⟨u,rfl⟩,⟨rfl,c,x,rfl⟩,q,λb a=>(g b a).1⟩⟩
 done:=by
  intro X f j l hc i pins s σ H E I g st m
  subst f j l
  obtain⟨f0,f1,f2,n,f4,p⟩:=g it (by simp)
  have B:i=y.cps.size:=m
  subst B
  exact(W X.A (I.ok.hd hc)).done s _ _ st λh' tk hk=>⟨rfl,I.turned (λb o a e=>hk b o (by simpa using a) e) f0 f1 n f4 p⟩
 self:=λA i s Q E st h=>C A i s Q E st h
def G6(tl:TE):TI:=λσ H R=>tl σ H λx H1=>∃y,x=.str y/\R (rP y) H1
theorem J9{l:Expr}{tl:TE}{nm:Str}{px:Pos}(j:PE X l tl):PI X (.Name nm px) l (G6 tl):=by
 intro pins s σ H R I h;refine aJ (j pins s σ H _ I h) λv a ⟨x,H1,c,k,m⟩=>?_;obtain⟨y,e,q⟩:=m;subst e;obtain⟨t,rfl⟩:=k;have fin:∀(ty:String) (o:Obj) (W:∀A:Around,A.handled=none->Walks X.prog X.w A a.heap.objs.size [a.heap.objs.size] [a.heap.objs.size] y.cps.size (SignAt y) (λi h=>h.IsStrIter a.heap.objs.size ty y t i))
   (f:∀(A:Around) (i:Nat) (s:Shared) (Q:aF) (E:aF),s.heap.IsStrIter a.heap.objs.size ty y t i->Q (.ref a.heap.objs.size) s->wpAny (model X.prog X.w) A (pyIter (.ref a.heap.objs.size)) Q E s),
   (a.heap.push o).IsStrIter a.heap.objs.size ty y t 0->wc X pins σ (.Name nm px) R (.ref a.heap.objs.size) {a with heap:=a.heap.push o}:=λty o W f st=>by
  refine⟨a.heap.objs.size,[a.heap.objs.size],_,_,H1,rfl,c.kept (t':=a.toks) λb o e=>bw _ e,M8 _ W f,st,λb n=>?_,q⟩;have e:b=a.heap.objs.size:=by simpa using n
  subst e;exact c.tK (aI _) (c.hok.fresh (aI _))
 cases g:y.cps.all (·<128)
 .exact wpAny_pyIter_wide g (fin _ _ (λA' d=>Walks.strWide d _ y t) (λ_ _ _ _ _ st h=>wpAny_pyIter_striter_wide st h) ⟨_,bK _ rfl,rfl,rfl⟩)
 .exact wpAny_pyIter_ascii g (fin _ _ (λA' d=>Walks.strAscii d _ y t) (λ_ _ _ _ _ st h=>wpAny_pyIter_striter_ascii st h) ⟨_,bK _ rfl,rfl,rfl⟩)
end
mutual
inductive Dp(K:Frag)(H:Hp):V->PyData->Prop
 |aM:Dp K H .aM .none
 |bl (b:Bool):Dp K H (.bl b) (.bool b)
 |int (i:Int):Dp K H (.int i) (.int i)
 |str (x:Str):Dp K H (.str x) (.str x)
 |lst {a:Addr} {xs:List V} {ds:List PyData}:aZ K H a xs->d7 K H xs ds->Dp K H (.ref a) (.list ds)
 |tup {a:Addr} {xs:List V} {ds:List PyData}:bf K H a xs->d7 K H xs ds->Dp K H (.ref a) (.tuple ds)
inductive d7(K:Frag)(H:Hp):List V->List PyData->Prop
 |nil:d7 K H [] []
 |cons {v:V} {vs:List V} {d:PyData} {ds:List PyData}:Dp K H v d->d7 K H vs ds->d7 K H (v::vs) (d::ds)
end
section
variable{X:Cx}{pins:aO}{σ:St}{H H':Hp}{s:Shared}{K:Frag}
mutual
theorem Dp.reads(I:Inv X pins σ H s):∀(d:PyData) (v:V) (u:Value),Dp X.K H v d->RelV v u->∃as,Reads s.heap u d as
 |.none,_,_,h,r=>by cases h;cases r;exact⟨_,.none⟩
 |.bool b,_,_,h,r=>by cases h;cases r;exact⟨_,.bool b⟩
 |.int i,_,_,h,r=>by cases h;obtain⟨t,rfl⟩:=r;exact⟨_,.int i t⟩
 |.str x,_,_,h,r=>by cases h;obtain⟨t,rfl⟩:=r;exact⟨_,.str x t⟩
 |.list ds,_,_,h,r=>by
  cases h with
  |lst a c=>
   cases r;obtain⟨its,f,g,j⟩:=I.list a;obtain⟨as,ra⟩:=d7.reads I ds _ _ c f;obtain⟨o,e,hc,n,hd⟩:=g.isList;exact⟨_,.list e hc hd (by simpa using ra)⟩
 |.tuple ds,_,_,h,r=>by
  cases h with
  |tup a c=>
   cases r;obtain⟨its,f,g,j⟩:=I.tuple a;obtain⟨as,ra⟩:=d7.reads I ds _ _ c f;obtain⟨o,e,hc,n,hd⟩:=g;exact⟨_,.tuple e hc hd (by simpa using ra)⟩
 |.dict _,_,_,h,_=>nomatch h
theorem d7.reads(I:Inv X pins σ H s):∀(ds:List PyData) (a:List V) (b:List Value),d7 X.K H a ds->Vals a b->∃as,ReadsAll s.heap b ds as
 |[],_,_,h,r=>by cases h;cases r;exact⟨_,.nil⟩
 |d::ds,_,_,h,r=>by
  cases h with
  |cons h1 h2=>
   cases r with
   |cons c e=>
    obtain⟨as,a1⟩:=Dp.reads I d _ _ h1 c;obtain⟨bs,a2⟩:=d7.reads I ds _ _ h2 e;exact⟨_,.cons a1 a2⟩
end
def uK(K:Frag):R2:=λx y H Q=>∃d e,Dp K H x d/\Dp K H y e/\d.canLay0=true/\e.canLay0=true/\min d.depth e.depth<=64/\Q (.bl (PyData.eqv d e)) H
def uM(K:Frag):R2:=λx y H Q=>∃d e,Dp K H x d/\Dp K H y e/\d.canLay0=true/\e.canLay0=true/\min d.depth e.depth<=64/\Q (.bl (!PyData.eqv d e)) H
theorem Ju(i:X.A.units+64<cLine):aV X (compareOp .Eq) (uK X.K):=by
 intro pins s σ H x y v u Q I a b h;obtain⟨d,e,h1,h2,c,f,hd,q⟩:=h;obtain⟨as,ra⟩:=Dp.reads I d x v h1 a;obtain⟨bs,g⟩:=Dp.reads I e y u h2 b;exact SeqAt.compareEq_reads ra g c f (by omega) ⟨.bl _,H,I,rfl,q⟩
theorem JE(i:X.A.units+64<cLine):aV X (compareOp .NotEq) (uM X.K):=by
 intro pins s σ H x y v u Q I a b h;obtain⟨d,e,h1,h2,c,f,hd,q⟩:=h;obtain⟨as,ra⟩:=Dp.reads I d x v h1 a;obtain⟨bs,g⟩:=Dp.reads I e y u h2 b;exact SeqAt.compareNe_reads ra g c f (by omega) ⟨.bl _,H,I,rfl,q⟩
theorem kc.new{p:Addr}(h:H p=none)(o:HO):kc H (upd H p o):=λb u q=>by rw[bA (dJ q h)];exact q
theorem d7.ints:∀(xs:List Int),d7 K H (xs.map V.int) (xs.map PyData.int)
 |[]=>.nil
 |x::r=>.cons (.int x) (d7.ints r)
end
mutual
def dB:PyData->Bool
 |.none|.int _|.str _=>true
 |.bool _=>false
 |.list ds=>gn ds
 |.tuple ds=>gn ds
 |.dict _=>false
def gn:List PyData->Bool
 |[]=>true
 |d::r=>dB d&&gn r
end
mutual
theorem yH:∀(d e:PyData),dB d=true->dB e=true->(PyData.eqv d e=true↔d=e)
 |.none,e,_,h=>by cases e<;>simp[PyData.eqv,dB] at h ⊢
 |.bool b,e,h,_=>by simp[dB] at h
 |.int i,e,_,h=>by cases e<;>simp[PyData.eqv,dB] at h ⊢
 |.str x,e,_,h=>by cases e<;>simp[PyData.eqv,dB] at h ⊢
 |.list ds,e,h1,h2=>by
  cases e with
  |list es=>
   have:=sZ ds es (by simpa[dB] using h1) (by simpa[dB] using h2);simpa[PyData.eqv] using this
  |_=>simp[PyData.eqv,dB] at h2 ⊢
 |.tuple ds,e,h1,h2=>by
  cases e with
  |tuple es=>
   have:=sZ ds es (by simpa[dB] using h1) (by simpa[dB] using h2);simpa[PyData.eqv] using this
  |_=>simp[PyData.eqv,dB] at h2 ⊢
 |.dict _,_,h,_=>by simp[dB] at h
theorem sZ:∀(ds es:List PyData),gn ds=true->gn es=true->(eqvAll ds es=true↔ds=es)
 |[],[],_,_=>by simp[eqvAll]
 |[],_::_,_,_=>by simp[eqvAll]
 |_::_,[],_,_=>by simp[eqvAll]
 |d::ds,e::es,h1,h2=>by
  have c:dB d=true/\gn ds=true:=by simpa[gn] using h1
  have f:dB e=true/\gn es=true:=by simpa[gn] using h2
  have a:=yH d e c.1 f.1;have b:=sZ ds es c.2 f.2;simp only[eqvAll,bZ,List.cons.injEq,a,b]
end
section
variable{P:Program}{w:World}{K:Frag}{mg:au}{base:Heap}
def TopD(K:Frag)(mg:au)(x:Str)(st:Stmt)(ps:List Str):Prop:=∃f fd,iu K x x st f fd/\Binds K fd ps []/\mg x=some (.ref f)
end
section
variable{X:Cx}{k:Nat}{x:Str}{ps:List Str}{sp:Sp}{e:Expr}{es:List Expr}{t:TA}{p pos:Pos}
theorem Jy:aV X (compareOp .LtE) (λx y H Q=>∃i j,x=.str i/\y=.str j/\Q (.bl (!decide (j.cps.toList<i.cps.toList))) H):=by
 intro pins s σ H x y v u Q I a b h;obtain⟨i,j,rfl,rfl,q⟩:=h;obtain⟨t,rfl⟩:=a;obtain⟨t',rfl⟩:=b;exact PySem.P.le_str (bI I q rfl)
end
inductive l5(K:Frag)(H:Hp):V->Value->Prop where
 |of {x:V} {t:Value} (h:fu K H x t):l5 K H x t
 |tup {a:Addr} {xs:List V} (h:bf K H a xs):l5 K H (.ref a) (.type "tuple")
 |lst {a:Addr} {xs:List V} (h:aZ K H a xs):l5 K H (.ref a) (.type "list")
theorem DE{X:Cx}:cV X (.builtin "isinstance") (λxs H Q=>∃x c t b,xs=[x,.ty c]/\l5 X.K H x t/\kitOne X.K t (.type c)=some b/\Q (.bl b) H):=by
 intro pins s σ H xs i Q I r h;obtain⟨x,c,t,b,rfl,ty,e,q⟩:=h;obtain⟨u,j,rfl,ru,a⟩:=vals2 r;cases a;cases ty with
 |of ty=>exact Hs I ru ty e λtk=>⟨.bl b,H,I.tok tk,rfl,q⟩
 |tup d=>
  cases ru;obtain⟨its,f,⟨o,h1,h2,_⟩,_⟩:=I.tuple d;exact fK kitx_tuple I.dz ⟨o,h1,h2⟩ e (λz=>nomatch z) λtk=>⟨.bl b,H,I.tok tk,rfl,q⟩
 |lst d=>
  cases ru;obtain⟨its,f,g,_⟩:=I.list d;obtain⟨o,h1,h2,_⟩:=g.isList;exact fK kitx_list I.dz ⟨o,h1,h2⟩ e (λz=>nomatch z) λtk=>⟨.bl b,H,I.tok tk,rfl,q⟩
end L2
end
namespace MA
inductive aS(N:Type) where
 |wt (n:N)
 |ay (l r:Int) (a b:aS N)
namespace aS
variable{N:Type}
def arms:aS N->Prop
 |wt _=>True
 |ay l r a b=>1<=l/\l<=9/\1<=r/\r<=9/\a.arms/\b.arms
def deep:aS N->Nat
 |wt _=>0
 |ay _ _ a b=>max a.deep b.deep+1
def names:aS N->List N
 |wt n=>[n]
 |ay _ _ a b=>a.names++b.names
theorem iH:∀(m:aS N),m.names.length<=2 ^ m.deep
 |wt _=>aI 1
 |ay _ _ a b=>by
  have h1:=iH a;have h2:=iH b;have h3:2 ^ a.deep<=2 ^ max a.deep b.deep:=dc (by decide) (Nat.le_max_left _ _);have c:2 ^ b.deep<=2 ^ max a.deep b.deep:=dc (by decide) (Nat.le_max_right _ _);show List.length (_++_)<=2 ^ (max a.deep b.deep+1);rw[b_,jS];omega
end aS
end MA
section
open PySem PySem.Spec PyProof.Rows
namespace L2
section
variable{P:Program}{w:World}{H H':Hp}{h:Heap}{a:Addr}{o:HO}
theorem bT.obj(x:bT P w H h a o):∃u,h.get? a=some u:=by
 cases o with
 |lst xs=>obtain⟨_,_,_,_,e⟩:=x;exact⟨_,e⟩
 |tup xs=>obtain⟨_,_,_,_,e⟩:=x;exact⟨_,e⟩
 |dK kvs=>obtain⟨_,_,_,_,o,_,_,e,_⟩:=x;exact⟨_,e⟩
 |dT kvs=>obtain⟨_,_,_,_,o,_,_,e,_⟩:=x;exact⟨_,e⟩
 |set S n=>obtain⟨o,_,_,_,e,_⟩:=x;exact⟨_,e⟩
 |ins C dx fs=>obtain⟨_,_,_,e,_⟩:=x;exact⟨_,e⟩
 |own y=>exact x
 |xd fs=>obtain⟨_,⟨_,_,_,e,_⟩,_⟩:=x;exact⟨_,e⟩
 |qE lo hi=>obtain⟨_,_,_,e⟩:=x;exact⟨_,e⟩
 |b5 b u=>obtain⟨e,_⟩:=x;exact⟨_,e⟩
 |fV ps=>exact⟨_,(show h.get? a=some _ from x)⟩
 |met f y=>exact⟨_,(show h.get? a=some _ from x)⟩
 |ext c=>obtain⟨_,e,_⟩:=x;exact e
end
structure vZ(P:Program)(w:World)(outer:List Env)(H H':Hp)(s s':Shared)(a:Addr)(C:Value):Prop where
 os:s'.os=s.os
 bare:AllBare s'.gens
 slot:∀b o,s.heap.get? b=some o->b∈frs outer->∃sl,s'.heap.get? b=some {o with slots:=sl}
 free:∀b o,s.heap.get? b=some o->H b=none->H' b=none
 tups:∀b xs,H b=some (.tup xs)->H' b=some (.tup xs)
 fc:∀b o u,H b=some (.b5 o u)->H' b=some (.b5 o u)
 fF:∀b ps,H b=some (.fV ps)->∃more,H' b=some (.fV (ps++more))
 fl:∃(B:Heap) (a0:Value),(∀b o,s.heap.get? b=some o->H b=none->b∉frs outer->B.get? b=some o)/\(∀b o,s.heap.get? b=some o->b∉frs outer->∃o',B.get? b=some o')/\bM P w H' B/\Heap.FlyingW B outer a C a0 s'.heap
def a_(P:Program)(w:World):fM:=λouter H s E e s'=>∃(a:Addr) (C:Value) (H':Hp),e=.ref a/\vZ P w outer H H' s s' a C/\E C none H'
section
variable{X:Cx}{pins:aO}{σ:St}{H H':Hp}{s s':Shared}{a:Addr}{C:Value}
theorem yM(I:Inv X pins σ H s)(hex:X.ex=[])(os:s'.os=s.os)(bare:AllBare s'.gens)(slot:∀b o,s.heap.get? b=some o->b∈frs X.outer->∃i,s'.heap.get? b=some {o with slots:=i})
  (free:∀b o,s.heap.get? b=some o->H b=none->H' b=none)(tups:∀b xs,H b=some (.tup xs)->H' b=some (.tup xs))(fc:∀b o u,H b=some (.b5 o u)->H' b=some (.b5 o u))
  (fF:∀b ps,H b=some (.fV ps)->∃d,H' b=some (.fV (ps++d)))
  (fl:∃(B:Heap) (a0:Value),(∀b o,s.heap.get? b=some o->H b=none->b∉frs X.stack->B.get? b=some o)/\(∀b o,s.heap.get? b=some o->b∉frs X.stack->∃o',B.get? b=some o')/\bM X.prog X.w H' B/\Heap.FlyingW B X.outer a C a0 s'.heap):
  vZ X.prog X.w X.outer X.H₀ H' X.s₀ s' a C:=by
 have nx:∀b:Addr,b∉X.ex:=λb=>by rw[hex];simp
 have g:∀b o,X.s₀.heap.get? b=some o->b∉frs X.outer->b∉frs X.stack:=λb o q c z=>by
  rcases aW.mp (I.lz b z) with e|e
  .exact absurd (cB (aQ q) I.ok.above) (by rw[e];exact eZ _)
  .exact c e
 refine⟨os.trans I.os,bare,λb o q c=> ?_,λb o q n=> ?_,λb xs q=>tups b xs (I.base.tups b xs q),λb o u q=>fc b o u (I.base.fc b o u q),λb ps q=> ?_,?_⟩
 .obtain⟨i,e⟩:=I.base.slot b o q (I.ok.kN b c) c (nx b)
  obtain⟨j,l⟩:=slot b _ e c
  exact⟨j,l⟩
 .obtain⟨i,e⟩:=I.base.any q n (nx b)
  exact free b _ e (I.base.free b o q n (nx b))
 .obtain⟨m,p⟩:=I.base.fF b ps q
  obtain⟨r,v⟩:=fF b _ p
  exact⟨m++r,by rw[v,Array.append_assoc]⟩
 .obtain⟨B,a0,k,t,h,f⟩:=fl
  refine⟨B,a0,λb o q n c=>k b o (I.base.keep b o q n c (nx b)) (I.base.free b o q n (nx b)) (g b o q c),λb o q c=> ?_,h,f⟩
  obtain⟨o',e⟩:=I.base.there b o q (nx b)
  exact t b o' e (g b o q c)
end
def Raises(X:Cx)(E:XK):Prop:=∀(pins:aO) (σ:St) (H:Hp) (s:Shared) (e:Addr) (h':Heap) (C:Value) (args:List Value),Inv X pins σ H s->Heap.MadeExcOf s.heap h' e C args->E C none H->X.xe (.ref e) {s with heap:=h'}
section
variable{P:Program}{w:World}{K:Frag}{mg:au}{base:Heap}{N:List Str}{qual:Str}{scope:Scope}{f:Addr}{cd:Value}{A:Around}{outer:List Env}{s:Shared}{H:Hp}{E:XK}
theorem yO{env:Env}{l:List Env}{b:Addr}(h:b∈frs l):b∈frs (env::l):=by
 obtain⟨e,a,c⟩:=nO.mp h;exact nO.mpr ⟨e,bE _ a,c⟩
theorem AF:Raises (bL (a_ P w) P w K mg base N qual scope f cd A outer s H E) E:=by
 intro pins σ H1 j e h' C args I i k;have stk:=I.stack;have jH:∀b o,H1 b=some o->b∉frs (bL (a_ P w) P w K mg base N qual scope f cd A outer s H E).stack:=λb o q z=>by
  rw[I.u_ b z] at q;cases q
 have h:∀a∈(bL (a_ P w) P w K mg base N qual scope f cd A outer s H E).stack,∀b,a.frame=some b->b∈frs (bL (a_ P w) P w K mg base N qual scope f cd A outer s H E).stack:=λa l b d=>nO.mpr ⟨a,l,d⟩;show wpAny (model P w) _ (leaving _ (.ref e)) _ _ _;refine wpAny_leaves_madeW (base:=hideAll j.heap (frs (bL (a_ P w) P w K mg base N qual scope f cd A outer s H E).stack)) I.ok.frames rfl (λb o q=>of_hideAll _ q) (PySem.W.funFrames_hide stk h) i λm t fl tup p up=>?_;refine⟨e,C,H1,rfl,yM I rfl rfl I.bare (λb o q d=>?_) (λ_ _ _ n=>n) (λ_ _ q=>q) (λ_ _ _ q=>q) (λ_ ps q=>⟨#[],by rw[q];simp⟩) ⟨_,_,λb o q n d=>hideAll_get _ q d,λb o q d=>⟨o,hideAll_get _ q d⟩,λb o q=>?_,fl⟩,k⟩
 .obtain⟨_,o',g,hd⟩:=stk.mem (yO (env:=envOfC qual scope s.heap.objs.size f cd) d)
  rw[q] at g;cases g;exact up b o (i.keeps b o q) hd
 .refine(I.hok b o q).stay (λc u hc r=>hideAll_get _ r ?_) (λ_ r=>r) λ_ _ r=>r
  rcases hc with z|z
  .rw[z];exact jH b o q
  .exact jH c _ z
theorem z8:Passes (a_ P w) (bL (a_ P w) P w K mg base N qual scope f cd A outer s H E) E:=by
 intro pins σ H1 p e s' I h;obtain⟨a,C,H',rfl,F,j⟩:=h;obtain⟨B,a0,k,th,hok,fl⟩:=F.fl;show wpAny (model P w) _ (leaving _ (.ref a)) _ _ _;refine wpAny_leaves_onW I.ok.frames rfl fl λl g up=>⟨a,C,H',rfl,yM I rfl F.os F.bare (λb o q m=>?_) F.free F.tups F.fc F.fF ⟨B,a0,k,th,hok,g⟩,j⟩;have c:=yO (env:=envOfC qual scope s.heap.objs.size f cd) m;obtain⟨r,e⟩:=F.slot b o q c;obtain⟨_,o',d,hd⟩:=fl.2.2.1.mem c;rw[e] at d;cases d;obtain⟨i,n⟩:=up b _ e hd;exact⟨i,n⟩
theorem z0:PassesOwn (model P w) (bL (a_ P w) P w K mg base N qual scope f cd A outer s H E).A (bL (a_ P w) P w K mg base N qual scope f cd A outer s H E).env (bL (a_ P w) P w K mg base N qual scope f cd A outer s H E).xe:=
 PassesOwn.leaving
end
abbrev jO:List Value:=[.type "ValueError",.type "Exception",.type "BaseException",.type "object"]
theorem FE{K:Frag}{h:Heap}{C:Addr}{b:List Value}{newId:String}(X:K.In h)(q:excIn K C b newId=true):∃nm d N bs bm hdct sn sub ab col dd k0 k1 k2 k3 k5,∃mN:au,
  h.get? C=some (excClassObj nm d C N bs bm hdct sn sub ab col dd k0 k1 k2 k3 k5 newId)/\h.Ns N mN/\mN "__init__"=none/\OwnTail h b bm:=by
 unfold excIn at q;split at q
 .rename_i dd cd f j
  split at q
  .rename_i m bm k0 k1 k2 k3 n k5 g i
   simp only[bZ,gX,nP] at q;obtain⟨⟨⟨⟨⟨rfl,rfl⟩,a⟩,k⟩,hok⟩,c⟩:=q;obtain⟨nm,bs,mro,ns,d,hd,sn,sub,ab,col,del⟩:=cd;dsimp only at g a hok c;subst g a;have e:f= #[k0,k1,k2,k3,some (.builtin n),k5]:=by
    obtain⟨l⟩:=f;simp only at i;rw[i]
   subst e;exact⟨nm,d,ns,bs,bm,hd,sn,sub,ab,col,dd,k0,k1,k2,k3,k5,_,X _ _ j,.of_isNs (PySem.W.isNs_of_in X hok),PySem.W.nsMap_none_of_in X hok c,PySem.W.tail_of_in X k⟩
  .cases q
 .cases q
section
variable{X:Cx}{E:XK}{x:Str}{C:Addr}{e:Expr}{t:TA}{np cpos pos:Pos}
def MO(E:XK)(C:Addr)(t:TA):TS:=λ_ σ H=>t σ H λvs H1=>vs.length<=sizeLine/\E (.ref C) none H1
theorem Kw(j:Raises X E)(hc:X.calm=true)(k:X.mg x=some (.ref C))(l:excIn X.K C jO "ValueError.__new__"=true)(m:PA X [e] t)(n:Gl X x:=by rfl)(b:(x==("__debug__":Str))=false:=by decide)
  (f:starEach [e] X.env=[(false,eval e X.env)]:=by rfl):PS X (.Raise (some (.Call (.Name x np) [e] [] cpos)) none pos) (MO E C t):=by
 intro pins s σ H D I h;obtain⟨nm,o,N,bs,bm,hdct,sn,sub,ab,col,dd,k0,k1,k2,k3,k5,mN,c,p,d,g⟩:=FE I.mod.pP l;refine wpAny_Raise_call_subT (nm:=nm) (q:=o) (C:=C) (N:=N) (bs:=bs) (bm:=bm) (hdct:=hdct) (sn:=sn) (sub:=sub) (ab:=ab) (col:=col) (dd:=dd) (k0:=k0) (k1:=k1) (k2:=k2) (k3:=k3) (k5:=k5) (mN:=mN) PySem.F.excBase_ValueError (g.hasType (by decide+kernel)) (I.ok.hd hc) (by rw[f];rfl) d (t7 I n k ⟨rfl,?_⟩ b);have h':=m cpos pins s σ H _ I h;rw[f] at h' ⊢;refine Calls.evalArgs_plain (aJ h' λr y ⟨z,H1,a,u,i⟩=>?_);have v:=u.length;exact⟨rfl,by show r.length<=sizeLine;rw[<-v];exact i.1,a.bk _ _ c,p.keeps a.bk,g.keeps a.bk,λh2 A w=>j _ _ _ _ _ _ _ _ a w i.2⟩
end
def excAt(a:Addr)(C:Value)(h:Heap):Prop:=∃o,h.get? a=some o/\o.cls=C
abbrev FD(a C:Addr):HO:=.ext (excAt a (.ref C))
section
variable{P:Program}{w:World}{K:Frag}{mg:au}{base:Heap}
def aj(P:Program)(w:World)(K:Frag)(mg:au)(base:Heap)(k:Nat)(x:Str)(ps:List Str)(sp:Sp):Prop:=
 ∃f fd,dH P w K mg base (a_ P w) k f fd ps sp/\Binds K fd ps []/\keepIn K (.ref f)=true/\mg x=some (.ref f)
theorem aj.mono{j k:Nat}{x:Str}{ps:List Str}{sp:Sp}(F:aj P w K mg base j x ps sp)(h:j<=k):aj P w K mg base k x ps sp:=by
 obtain⟨f,fd,F,r⟩:=F;exact⟨f,fd,F.mono h,r⟩
theorem TopD.fnX{x:Str}{st:Stmt}{N ps:List Str}{k:Nat}{sp:Sp}(T:TopD K mg x st ps)(S:aR N ps (aH st))(len:∀c H Q E,sp c H Q E->c.length=ps.length)
  (d:∀(f:Addr) (a:Value) (A:Around) (outer:List Env) (s:Shared) (H:Hp) (c:List V) (Q:VK) (E:XK),ck k (A.deeper (envOfC x (aH st) s.heap.objs.size f a))->sp c H Q E->
   ∃t,cj (bL (a_ P w) P w K mg base N x (aH st) f a A outer s H E) (e9 st) t/\t {nx:=λ_ H'=>Q .aM H',rt:=Q} (start N c) H):aj P w K mg base (k+1) x ps sp:=by
 obtain⟨f,fd,F,b,m⟩:=T;have kp:=F.kp;obtain⟨j,l,kV,doc,pm,an,a,ct,h,rfl,lk,e⟩:=F.ex;exact⟨f,_,yN lk e S len λA outer s H c Q E i g=>d f a A outer s H c Q E i g,b,kp,m⟩
end
section
variable{X:Cx}{k:Nat}{x:Str}{ps:List Str}{sp:Sp}{e fe:Expr}{es:List Expr}{t:TA}{tf:TE}{p pos:Pos}{E:XK}
theorem JQ(F:aj X.prog X.w X.K X.mg X.base k x ps sp)(d:ck k X.A)(g:Passes (a_ X.prog X.w) X E)(h:PA X (e::es) t)(i:Gl X x:=by rfl)(a:(x==("__debug__":Str))=false:=by decide)
  (j:starEach (e::es) X.env=(false,eval e X.env)::starEach es X.env:=by rfl)(c:(backTo pos (starEach es X.env)).any (·.1)=false:=by rfl):
  PE X (.Call (.Name x p) (e::es) [] pos) (Cd sp [] E t):=by
 obtain⟨f,fd,F,b,kp,m⟩:=F;exact JO F d i m kp b .nil g h a j c
end
end L2
namespace SS
theorem JI(t:SetTable)(n:Nat):(t.orStandIn n).led=t.led:=by
 unfold SetTable.orStandIn;split<;>rfl
theorem JJ(t:SetTable)(n:Nat)(h:t.plain=false):(t.orStandIn n).plain=false:=by
 unfold SetTable.orStandIn;split
 .exact h
 .rfl
theorem H8(t:SetTable)(es:Array (Int×Value))(h:Int)(x:Value):(layNew t es h x).2.1.led=t.led:=by
 unfold layNew;split
 .exact JI _ _
 .rfl
theorem H9(t:SetTable)(es:Array (Int×Value))(h:Int)(x:Value)(a:t.plain=false):(layNew t es h x).2.1.plain=false:=by
 unfold layNew;split
 .exact JJ _ _ a
 .rfl
theorem zv{mask finger moves:Nat}{led plain:Bool}{a:Array Int}{t:SetTable}{o:Array Nat}(h:SetTable.laid mask finger moves led plain a=some (t,o)):t.led=led/\t.plain=plain:=by
 unfold SetTable.laid at h;obtain⟨w,_,h⟩:=Option.bind_eq_some_iff.mp h;cases h;exact⟨rfl,rfl⟩
theorem KZ(t:SetTable)(es:Array (Int×Value))(n:Nat):(relayAll t es n).2.1.led=t.led:=by
 unfold relayAll;split
 .rename_i t' o e
  dsimp only;split
  .exact(zv e).1
  .rfl
 .rfl
theorem K0(t:SetTable)(es:Array (Int×Value))(n:Nat)(a:t.plain=false):(relayAll t es n).2.1.plain=false:=by
 unfold relayAll;split
 .rename_i t' o e
  dsimp only;split
  .exact(zv e).2.trans a
  .rfl
 .rfl
def strOf(v:Value):Str:=match v with|.str x _=>x|_=>⟨#[]⟩
def c7(prog:Program)(w:World)(h:Heap)(a:Addr)(es:Array (Int×Value)):Prop:=
 ∃o ep t,h.get? a=some o/\o.ExactSet/\o.data=.set es ep t/\ElemsOf (PySem.strKind prog w) es.toList/\(es.toList.map λe=>strOf e.2).Nodup/\es.size<scanBound/\t.fits es.size=true/\
  t.led= !w.params.followText "set-order"/\(es.size≠0->t.plain=false)
section
variable{prog:Program}{w:World}{A:Around}{E:aF}{s:Shared}
theorem sX{l:List (Int×Value)}(h:ElemsOf (PySem.strKind prog w) l){e:Int×Value}(a:e∈l):∃t,e.2=.str (strOf e.2) t:=by
 obtain⟨⟨k,hk,_⟩,_⟩:=h e a;obtain⟨t,q⟩:=Value.isStrOf_shape hk;exact⟨t,by rw[q];rfl⟩
theorem zk{e:Int×Value}{x:Str}(h:∃t,e.2=.str (strOf e.2) t):(PySem.strKind prog w).is x e.2=decide (strOf e.2=x):=by
 obtain⟨t,q⟩:=h;rw[q];show Value.isStrOf x (.str (strOf e.2) t)=decide (strOf (.str (strOf e.2) t)=x);by_cases a:strOf e.2=x
 .rw[dN (by rw[<-a];rfl),a]
  simp[Value.isStrOf]
 .rw[dg (by exact a)]
  simp only[Value.isStrOf];simpa[gX] using λz=>a (by first|exact z.symm|exact z)
theorem add{a:Addr}{es:Array (Int×Value)}{x:Str}{tk:Tok}{Q:Bool->Shared->Prop}(hS:c7 prog w s.heap a es)(K:es.size+1<scanBound)
  (h:∀h' l b,SameBut a s.heap h'->c7 prog w h' a l->(x∈es.toList.map (λe=>strOf e.2)->l=es)->(x∉es.toList.map (λe=>strOf e.2)->l.toList.Perm (es.toList++[((PySem.strKind prog w).hash x,.str x tk)]))->Q b {s with heap:=h'}):
  wpAny (model prog w) A (setAddHashed a (.str x tk) ((PySem.strKind prog w).hash x)) Q E s:=by
 obtain⟨o,ep,t,T,hex,hd,n,U,hb,hf,u,hpl⟩:=hS
 have C:(PySem.strKind prog w).is x (.str x tk)=true:=by show Value.isStrOf x (.str x tk)=true;simp[Value.isStrOf]
 have M:(Value.str x tk).scannable=true:=rfl
 unfold setAddHashed setAddHashedIn
 refine fY (ah (lM T hd hf ?_))
 dsimp only
 rw[byScan_of M hb n]
 simp only[↓reduceIte]
 unfold setAddByScan
 refine ah ?_
 refine ah (gS ?_)
 refine ah (wpAny_setScan_of C T hd hf n ?_)
 cases hr:List.findIdx? (λe=>(PySem.strKind prog w).is x e.2) es.toList with
 |some j=>
  dsimp only
  obtain⟨hj,V,_⟩:=List.findIdx?_eq_some_iff_getElem.mp hr
  have hin:x∈es.toList.map (λe=>strOf e.2):=by
   rw[zk (sX n (cA hj))] at V
   exact b9.mpr ⟨_,cA hj,nQ V⟩
  refine aB (aB ?_)
  have e:s={s with heap:=s.heap}:=by cases s;rfl
  rw[e]
  exact h s.heap es _ (SameBut.refl a s.heap) ⟨o,ep,t,T,hex,hd,n,U,hb,hf,u,hpl⟩ (λ_=>rfl) λz=>absurd hin z
 |none=>
  dsimp only
  have D:x∉es.toList.map (λe=>strOf e.2):=λz=>by
   obtain⟨e,he,q⟩:=b9.mp z
   have:=List.findIdx?_eq_none_iff.mp hr e he
   rw[zk (sX n he),dN q] at this
   exact Bool.noConfusion this
  have GW:∀(b:Bool) {f:Shared} {F:Unit->Shared->Prop},F () f->wpAny (model prog w) A (match b with|true=>rule "set.scan.the-table-gave-way"|false=>pure ()) F E f:=
   λb f F r=>by cases b<;>first|exact aB r|exact gS r
  have d:=layNew_perm t es ((PySem.strKind prog w).hash x) (.str x tk)
  have k:=layNew_fits t es ((PySem.strKind prog w).hash x) (.str x tk)
  have B:=H8 t es ((PySem.strKind prog w).hash x) (.str x tk)
  have W:=H9 t es ((PySem.strKind prog w).hash x) (.str x tk)
  generalize hL:layNew t es ((PySem.strKind prog w).hash x) (.str x tk)=L at d k B W ⊢
  obtain⟨c,t1,p,NZ⟩:=L
  dsimp only at d k B W ⊢
  rw[jT] at d
  have G:ElemsOf (PySem.strKind prog w) c.toList:=(n.push C M).perm d
  have X:((es.toList++[((PySem.strKind prog w).hash x,Value.str x tk)]).map λe=>strOf e.2).Nodup:=by
   rw[map_append]
   refine List.nodup_append.mpr ⟨U,by simp,λy hy z hz=> ?_⟩
   have hz':z=x:=by simpa[strOf] using hz
   rw[hz']
   rintro rfl
   exact D hy
  have H:(c.toList.map λe=>strOf e.2).Nodup:=(d.map _).nodup_iff.mpr X
  have Y:c.size=es.size+1:=by rw[<-bH,d.length_eq,b_,bH];rfl
  have v:c.size<scanBound:=by rw[Y];exact K
  refine ah (GW _ ?_)
  have fin:∀{g:Bool->Sem Unit} {R:Option Bool->Shared->Prop},(∀(b:Bool) (f:Shared) (F:Unit->Shared->Prop),F () f->wpAny (model prog w) A (g b) F E f)->(∀h',Q true {s with heap:=h'}->R (some true) {s with heap:=h'})->
    ∀i:SetTable,i.fits c.size=true->i.led=t.led->i.plain=false->
    wpAny (model prog w) A (do
     storeSet a c i
     if (!p&&i.tooFull)=true then do
       g (relayAll i c (SetTable.grown c.size)).2.2
       storeSet a (relayAll i c (SetTable.grown c.size)).1 (relayAll i c (SetTable.grown c.size)).2.1
       pure (some true)
      else pure (some true)) R E s:=λ {g R} hg hR i hf2 Z hp2=>by
   have go:∀h' l,SameBut a s.heap h'->c7 prog w h' a l->l.toList.Perm c.toList->R (some true) {s with heap:=h'}:=λh' l q1 q2 q3=>hR h' (h h' l true q1 q2 (λz=>absurd z D) λ_=>q3.trans d)
   refine ah (wpAny_storeSet_of T hd ?_ (rH v))
   have N:(s.heap.update a (Obj.putSet c i)).get? a=some {o with data:= .set c (ep+1) i}:=by
    have:=h_ (Obj.putSet c i) T (by rw[putSet_of c i hd];rfl)
    rw[putSet_of c i hd] at this;exact this
   have I:=SameBut.update s.heap a (Obj.putSet c i)
   split
   .have J:=relayAll_perm i c (SetTable.grown c.size)
    have O:=relayAll_fits i c (SetTable.grown c.size)
    have P:=KZ i c (SetTable.grown c.size)
    have S:=K0 i c (SetTable.grown c.size) hp2
    generalize N2:relayAll i c (SetTable.grown c.size)=Rl at J O P S ⊢
    obtain⟨m,t3,N1⟩:=Rl
    dsimp only at J O P S ⊢
    have hsz:m.size=c.size:=by rw[<-bH,J.length_eq,bH]
    have hb2:m.size<scanBound:=by rw[hsz];exact v
    refine ah (hg _ _ _ ?_)
    refine ah (wpAny_storeSet_of N rfl ?_ (rH hb2))
    have GV:((s.heap.update a (Obj.putSet c i)).update a (Obj.putSet m t3)).get? a=some {o with data:= .set m (ep+1+1) t3}:=by
     have:=h_ (Obj.putSet m t3) N (by rw[putSet_of (ep:=ep+1) (t:=i) m t3 rfl];rfl)
     rw[putSet_of (ep:=ep+1) (t:=i) m t3 rfl] at this;exact this
    refine aB (go _ m (I.trans (SameBut.update _ a _)) ⟨_,_,_,GV,hex,rfl,G.perm J,(J.map _).nodup_iff.mpr H,hb2,O,?_,λ_=>S⟩ J)
    rw[P,Z];exact u
   .exact aB (go _ c I ⟨_,_,_,N,hex,rfl,G,H,v,hf2,by rw[Z];exact u,λ_=>hp2⟩ .rfl)
  split
  .refine ah ?_
   rw[hashByValue_scannable 8 M]
   refine aB ?_
   simp only[show plainKind (Value.str x tk)=false from rfl,fJ,dQ]
   refine fin ?_ ?_ {t1 with plain:=false} (SetTable.fits_plain_off k) B rfl
   .intro b f F r;cases b<;>first|exact aB r|exact gS r
   .exact λh' r=>aB r
  .rename_i J
   refine ah (aB ?_)
   simp only[↓reduceIte]
   refine fin ?_ ?_ t1 k B (by simpa using J)
   .intro b f F r;cases b<;>first|exact aB r|exact gS r
   .exact λh' r=>aB r
end
abbrev names(es:Array (Int×Value)):List Str:=es.toList.map λe=>strOf e.2
theorem c7.keeps{prog:Program}{w:World}{h h':Heap}{a:Addr}{es:Array (Int×Value)}(S:c7 prog w h a es)(k:∀o,h.get? a=some o->h'.get? a=some o):c7 prog w h' a es:=by
 obtain⟨o,ep,t,b,r⟩:=S;exact⟨o,ep,t,k o b,r⟩
section
variable{prog:Program}{w:World}{A:Around}{R:Result->Shared->Prop}{I:Addr}{fp wr:List Addr}{G:Array GenState->Array GenState->Prop}{n:Nat}{P:Nat->Value->Prop}{St:Nat->Shared->Prop}
theorem loop(W:WalksS prog w A.in1 I fp wr G n P St)(S:Addr)(q:S∉fp)(val:Nat->Str)(r:∀i v,P i v->∃t,v=.str (val i) t)(m:n+1<scanBound):
  ∀(k i:Nat) (s:Shared) (es:Array (Int×Value)),n - i=k->i<=n->St i s->c7 prog w s.heap S es->es.size<=i->(∀x,x∈names es↔∃j,j<i/\val j=x)->
   (∀s' c,Moved (S::wr) G s s'->c7 prog w s'.heap S c->c.size<=n->(∀x,x∈names c↔∃j,j<n/\val j=x)->R (.ok (.ret .none)) s')->
   codeAny (model prog w) A (.builtin "set.update.loop" ⟨[.ref S,.ref I],[]⟩) R s:=by
 have u:S∉wr:=λh=>q (W.sub _ h);have f:∀b∈wr,b∈S::wr:=λb m=>bE _ m;intro k;induction k with
 |zero=>
  intro i s es hk hi g N B d O;have Q:i=n:=by omega
  subst Q;refine gw F.entry_set_update_loop ?_;rw[gY vC _];show wpAny _ A.in1 (pyNext (.ref I)>>=_) _ _ s;refine ah (W.done s _ _ g λs' C=>?_);show wpAny _ A.in1 (ret Value.none) _ _ s';exact aB (O s' es (C.mono f) (N.keeps λo T=>C.heap S _ u T) B d)
 |succ k ih=>
  intro i s es hk hi g N B d O;have D:i<n:=by omega
  refine gw F.entry_set_update_loop ?_;rw[gY vC _];show wpAny _ A.in1 (pyNext (.ref I)>>=_) _ _ s;refine ah (W.item i s _ _ D g λv s' hP E C=>?_);obtain⟨t,rfl⟩:=r i v hP;have U:c7 prog w s'.heap S es:=N.keeps λo T=>C.heap S _ u T;show wpAny _ A.in1 (holding [Value.str (val i) t] (setAdd S (.str (val i) t))>>=_) _ _ s';refine ah (fY ?_);unfold setAdd;refine fY ?_;refine ah ((PySem.strKind prog w).pyHash (k:=val i) (by show Value.isStrOf (val i) (.str (val i) t)=true;simp[Value.isStrOf]) ?_);refine add (s:={s' with toks:=s'.toks+1}) U (by omega) λh' c b H V q1 q2=>?_;have J:c.size<=i+1:=by
   by_cases p:val i∈es.toList.map (λe=>strOf e.2)
   .rw[q1 p];omega
   .rw[<-bH,(q2 p).length_eq,b_,bH]
    simp only[dZ,length_nil];omega
  have l:∀x,x∈names c↔∃j,j<i+1/\val j=x:=λx=>by
   have e1:x∈names c↔x∈names es\/x=val i:=by
    by_cases p:val i∈es.toList.map (λe=>strOf e.2)
    .rw[q1 p]
     exact⟨.inl,λz=>z.elim id λe=>e▸p⟩
    .have hp:=((q2 p).map λe=>strOf e.2).mem_iff (a:=x)
     rw[map_append,bF] at hp;refine hp.trans ⟨λz=>z.imp id λy=>by simpa[strOf] using y,λz=>z.imp id λy=>by simpa[strOf] using y⟩
   rw[e1,d x];constructor
   .rintro (⟨j,hj,e⟩|rfl)
    .exact⟨j,by omega,e⟩
    .exact⟨i,by omega,rfl⟩
   .rintro ⟨j,hj,e⟩
    by_cases X:j=i
    .exact .inr (by rw[<-e,X])
    .exact .inl ⟨j,by omega,e⟩
  refine aB ⟨gq vC _,ih (i+1) _ c (by omega) D (W.frame _ s' _ _ E (le_succ _) λb m o e=>?_) V J l λY K L M hz Z=>?_⟩
  .rw[H.2 b (λh:b=S=>q (by rw[<-h];exact m))];exact e
  .refine O Y K (Moved.trans W.gtrans ((C.mono f).then_heap (le_succ _) λb o m e=>?_) L) M hz Z
   rw[H.2 b (λh:b=S=>m (by rw[h];exact bJ))];exact e
end
section
variable{prog:Program}{w:World}{A:Around}{E:aF}{s:Shared}
abbrev Ia(w:World):Bool:= !w.params.followText "set-order"
abbrev gk(w:World):Obj:={cls:=.type "set",dict:=none,data:=.set #[] 0 (.fresh 0 0 (Ia w))}
theorem code_set_new(a:Value){Q₁:aF}(h:Q₁ (.ref s.heap.objs.size) {s with heap:=s.heap.push (gk w)}):
  codeAny (model prog w) A (.call (.builtin "set.__new__") ⟨[.type "set",a],[]⟩) (wants Q₁ E) s:=by
 refine codeAny_of_tree ?_;show wpAny _ A.in1 (do checkBuiltinCall "set.__new__" ⟨[.type "set",a],[]⟩;again (.builtin "set.__new__" ⟨[.type "set",a],[]⟩)) _ _ s;refine ah (wpAny_of_eq (PySem.F.newCall_set_1 a) (aB ⟨gq PySem.F.plain_set_new _,gw PySem.F.entry_set_new ?_⟩));rw[gY PySem.F.plain_set_new _];unfold Builtin.«set.__new__» Builtin.Frozenset.newClass;have b:=sub_set_self;obtain⟨c,g,d,tk,os⟩:=s;dsimp only;wp_walk;refine wpAny_askSetting (aB ?_);dsimp only;simp only[newObj];refine ah (wpAny_alloc (aB ?_));exact aB h
theorem c7.fresh{h:Heap}{a:Addr}(b:h.get? a=some (gk w)):c7 prog w h a #[]:=
 ⟨_,_,_,b,⟨rfl,rfl,rfl⟩,rfl,λe c=>by simp at c,by simp,by decide,by rfl,rfl,λz=>absurd rfl z⟩
theorem DJ{l:Addr}{items:Array Value}{val:Nat->Str}{Q:aF}
  (hh:A.handled=none)(hl:s.heap.IsList l items)(hi:∀(i:Nat) (v:Value),items[i]? =some v->∃t:Tok,v=Value.str (val i) t)(J:items.size+1<scanBound)
  (h:∀(h':Heap) (tk:Nat) (es:Array (Int×Value)),c7 prog w h' s.heap.objs.size es->es.size<=items.size->(∀x,x∈names es↔∃j,j<items.size/\val j=x)->
   (∀b o,b<s.heap.objs.size->s.heap.get? b=some o->h'.get? b=some o)->Q (.ref s.heap.objs.size) {s with heap:=h',toks:=tk}):
  wpAny (model prog w) A (call (.type "set") [.ref l]) Q E s:=by
 obtain⟨c,tl,Z⟩:=jl.mro
 have L:=jl.made
 have hsub:=jl.sub
 refine wpAny_call (codeAny_of_tree ?_)
 show wpAny _ _ (callAny (.type "set") _) _ _ _
 refine aB ⟨Code.quiet_builtin _ (by decide+kernel),gw PySem.F.entry_type_call ?_⟩
 rw[Around.under_plain (weight_type_call_type "set" [.ref l] []) rfl]
 have h1:=jl.notType
 have h2:=jl.canCreate
 have hct:=PySem.F.typeCall_set_1 (.ref l)
 repeat (any_goals (first|assumption|wp_step))
 refine n8 (code_set_new (.ref l) (E:=E) (Q₁:=λobj f=>obj= .ref s.heap.objs.size/\f={s with heap:=s.heap.push (gk w)}) ⟨rfl,rfl⟩) λr f M=> ?_
 cases r with
 |error e=>exact M
 |ok fl=>
  cases fl with
  |ret obj=>
   obtain⟨rfl,rfl⟩:=M
   have hS:(s.heap.push (gk w)).get? s.heap.objs.size=some (gk w):=bK _ rfl
   have hT:Shared.TypeIs {s with heap:=s.heap.push (gk w)} (.ref s.heap.objs.size) "set":=⟨_,hS,rfl⟩
   have hli:=jl.init.lookup
   have hbi:=jl.init.bind (.ref s.heap.objs.size)
   repeat (any_goals (first|assumption|wp_step))
   refine n8 (codeAny_call_builtin (R:=wants (λr g=>r= .none/\∃h' tk es,g={s with heap:=h',toks:=tk}/\
     c7 prog w h' s.heap.objs.size es/\es.size<=items.size/\(∀x,x∈names es↔∃j,j<items.size/\val j=x)/\
     (∀b o,b<s.heap.objs.size->s.heap.get? b=some o->h'.get? b=some o)) E) jl.init.plain PySem.F.entry_set_init (check_set_init_1 hT ?_)) λu g a=> ?_
   .obtain⟨ol,y,B,nl,C⟩:=hl
    obtain⟨Oa,k,N,d⟩:=ol
    simp only at B C
    subst B;subst C
    have D:(s.heap.push (gk w)).get? l=some {cls:= .type "list",dict:=k,data:= .seq items nl,slots:=d}:=bw _ y
    have N4:=PySem.F.sub_list_set
    have N3:=PySem.F.sub_list_frozenset
    have hne:(Value.type "list" ==Value.type "dict")=false:=by decide
    have G:(s.heap.push (gk w)).IsList l items:=⟨_,D,rfl,nl,rfl⟩
    unfold Builtin.«set.__init__» noKeywords Builtin.Frozenset.updateFrom
    generalize O:pyIter=PI
    wp_walk
    subst O
    refine nW G ?_
    refine ah (wpAny_runValue ?_)
    have H:l<s.heap.objs.size:=aQ y
    have P:A.in1.in1.in1.handled=none:=by simp[hh]
    have I:l≠(s.heap.push (gk w)).objs.size:=by
     rw[cS];exact bq (fj H)
    have S:s.heap.objs.size∉[(s.heap.push (gk w)).objs.size,l]:=by
     rw[cS];simp only[aW,bV,eW,eY,not_or]
     exact⟨bq (iR _),je H⟩
    refine loop ((Walks.list P _ l I items).toS) s.heap.objs.size S val (λi v hv=>hi i v hv) J (items.size - 0) 0 _ #[] (by omega) (c5 _)
     ⟨⟨_,bK _ rfl,rfl,rfl⟩,(G.push _)⟩ ?GU (aI _) (λx=>⟨λz=>by simp[names] at z,λ⟨j,hj,_⟩=>absurd hj (Nat.not_lt_zero _)⟩) ?hR
    case GU=>exact c7.fresh (bw _ hS)
    case hR=>
     intro s' T K m n p
     obtain⟨h',g',d',U,V⟩:=s'
     have eg:g'=s.gens:=K.gens
     have ed:d'=s.drawn:=K.drawn
     have eo:V=s.os:=K.os
     subst eg;subst ed;subst eo
     show wpAny _ _ _ _ _ _
     refine aB ?_
     show wpAny _ _ (ret Value.none) _ _ _
     refine aB ⟨rfl,h',U,T,rfl,m,n,p,λb o J e=> ?_⟩
     have W:b≠s.heap.objs.size:=bq J
     have X:b≠(s.heap.push (gk w)).objs.size:=by
      rw[cS];exact bq (fj J)
     exact K.heap b o (by simp only[aW,bV,eW,eY,not_or];exact⟨W,X⟩) (bw _ (bw _ e))
   .cases u with
    |error e=>exact a
    |ok q=>
     cases q with
     |ret r=>
      obtain⟨rfl,h',tk,es,rfl,m,n,p,Y⟩:=a
      repeat (any_goals (first|assumption|wp_step))
      exact h _ _ es m n p Y
     |_=>exact a.elim
  |_=>exact M.elim
end
theorem BX:Slot "set" "__iter__" "set.__iter__":=
 .of (owner:="set") (n:="__iter__") (by rw[nS,n7];kernel_rfl) (by decide+kernel) (by decide+kernel) (by decide+kernel)
  (by first|exact .inl (by decide+kernel)|exact .inr (by decide+kernel)) (by rw[isSubtype_type];kernel_rfl)
theorem slot_next:Slot "set_iterator" "__next__" "set_iterator.__next__":=
 .of (owner:="set_iterator") (n:="__next__") (by rw[nS,n7];kernel_rfl) (by decide+kernel) (by decide+kernel) (by decide+kernel)
  (by first|exact .inl (by decide+kernel)|exact .inr (by decide+kernel)) (by rw[isSubtype_type];kernel_rfl)
theorem BY:Slot "set_iterator" "__iter__" "set_iterator.__iter__":=
 .of (owner:="set_iterator") (n:="__iter__") (by rw[nS,n7];kernel_rfl) (by decide+kernel) (by decide+kernel) (by decide+kernel)
  (by first|exact .inl (by decide+kernel)|exact .inr (by decide+kernel)) (by rw[isSubtype_type];kernel_rfl)
theorem Fj:entryFor table "set.__iter__"=some Builtin.«frozenset.__iter__»:=
 entryFor_alias (id':="frozenset.__iter__") (by kernel_rfl) (by first|rfl|decide+kernel) (by decide+kernel) (by kernel_rfl)
theorem entry_next:entryFor table "set_iterator.__next__"=some Builtin.«set_iterator.__next__»:=entryFor_of_fast (by kernel_rfl)
theorem Dn(a:Value):argsOk "set.__iter__" ⟨[a],[]⟩:=by unfold argsOk;kernel_rfl
theorem args_next(a:Value):argsOk "set_iterator.__next__" ⟨[a],[]⟩:=by unfold argsOk;kernel_rfl
theorem Nl{M:Model}{A:Around}{E:aF}{s:Shared}{src:Source}{n:Nat}{Q:Nat->Shared->Prop}(hn:n≠0)(h:∀i d,i<n->Q i {s with drawn:=d}):wpAny M A (choose src n) Q E s:=λa p _=>by
 unfold choose;rw[Sem.wp_choose];exact⟨hn,h _ _ (Nat.mod_lt _ (Nat.pos_of_ne_zero hn))⟩
theorem uE{α:Type}:∀(xs:List α) (i:Nat) (x:α),xs[i]?=some x->xs.Perm (x::xs.eraseIdx i)
 |[],i,x,h=>by simp at h
 |y::r,0,x,h=>by
  simp at h;subst h;simp
 |y::r,i+1,x,h=>by
  simp only[vF] at h;have:=uE r i x h;simp only[List.eraseIdx_cons_succ];exact(this.cons y).trans (Perm.swap x y _)
section
variable{M:Model}{A:Around}{E:aF}{s:Shared}
theorem yt{α:Type}:∀(n:Nat) (xs:List α) (s:Shared) (Q:List α->Shared->Prop),n=xs.length->(∀ys d,ys.Perm xs->Q ys {s with drawn:=d})->wpAny M A (drawOrder n xs) Q E s
 |0,xs,s,Q,hn,h=>by
  cases xs with
  |nil=>unfold drawOrder;exact aB (h [] s.drawn .nil)
  |cons x r=>simp at hn
 |n+1,[],s,Q,hn,h=>by simp at hn
 |n+1,x::r,s,Q,hn,h=>by
  unfold drawOrder;refine ah (Nl (by simp) λi d hi=>?_);have e:(x::r)[i]?=some ((x::r)[i]'hi):=bS hi;rw[e];dsimp only;have a:=uE (x::r) i _ e;refine ah (yt n _ _ _ ?_ λys d' b=>aB ?_)
  .have:=a.length_eq
   simp only[dZ] at this hn ⊢;omega
  .exact h _ d' ((b.cons _).trans a.symm)
end
theorem Ad{α:Type}(next:Nat->Nat):∀(fuel k:Nat) (left:List α) (out:Array α),fuel=left.length->(pickOrder.go next fuel k left out).toList.Perm (out.toList++left)
 |0,k,left,out,h=>by
  cases left with
  |nil=>unfold pickOrder.go;simp
  |cons x r=>simp at h
 |fuel+1,k,[],out,h=>by simp at h
 |fuel+1,k,x::r,out,h=>by
  unfold pickOrder.go;have hi:next k%(x::r).length<(x::r).length:=Nat.mod_lt _ (by simp);have e:(x::r)[next k%(x::r).length]?=some ((x::r)[next k%(x::r).length]'hi):=bS hi;rw[e];dsimp only;have a:=uE (x::r) _ _ e;refine(Ad next fuel (k+1) _ _ ?_).trans ?_
  .have:=a.length_eq
   simp only[dZ] at this h ⊢;omega
  .rw[jT,bz]
   exact gv _ a.symm
theorem J_{α:Type}(next:Nat->Nat)(xs:Array α):(pickOrder next xs).toList.Perm xs.toList:=by
 unfold pickOrder;exact(Ad next xs.size 0 xs.toList #[] (by simp)).trans (by simp)
def dR(h:Heap)(it a:Addr)(first:Value)(i n ep:Nat):Prop:=∃o,h.get? it=some o/\o.cls=.type "set_iterator"/\o.data=.fields #[first,.int i 0,.ref a,.int n 0,.int ep 0]
def fO(h:Heap)(a:Addr)(es:Array (Int×Value))(ep:Nat)(t:SetTable):Prop:=∃o,h.get? a=some o/\o.data=.set es ep t/\t.fits es.size=true
section
variable{prog:Program}{w:World}{A:Around}{E:aF}{s:Shared}{it a:Addr}{es:Array (Int×Value)}{ep:Nat}{t:SetTable}
theorem dR.typeIs{first:Value}{i n:Nat}(h:dR s.heap it a first i n ep):s.TypeIs (.ref it) "set_iterator":=by
 obtain⟨o,h1,h2,_⟩:=h;exact⟨o,h1,h2⟩
theorem dR.put{first v:Value}{i n k:Nat}{h:Heap}(x:dR h it a first i n ep)(o:Obj)(b:h.get? it=some o):(h.update it (Obj.mapFields (·.setIfInBounds k v))).get? it=some (o.mapFields (·.setIfInBounds k v)):=by
 obtain⟨o',h1,h2,h3⟩:=x;rw[h1] at b;cases b;exact h_ _ h1 (vL (iQ h3 _))
theorem zP{slot:Int}{i:Nat}{x:Value}{nx:Nat}{Q:Option Value->Shared->Prop}(hi:dR s.heap it a (.int slot 0) i es.size ep)(f:fO s.heap a es ep t)
  (hn:∀(A:Around) (Q:Option (Value×Nat)->Shared->Prop) (E:aF),Q (some (x,nx)) s->wpAny (model prog w) A (setNext a slot.toNat i ep) Q E s)
  (g:∀h',dR h' it a (.int nx 0) (i+1) es.size ep->SameBut it s.heap h'->Q (some x) {s with heap:=h'}):wpAny (model prog w) A (pyNext (.ref it)) Q E s:=by
 obtain⟨o,c,hc,hd⟩:=id hi
 obtain⟨os,d,e,h⟩:=f
 unfold pyNext
 refine ah (nU (nV (name:=Str.ofString "__next__") hi.typeIs slot_next (iP slot_next hi.typeIs entry_next ?_ (args_next _))))
 show wpAny _ _ (fieldsOf (.ref it)>>=_) _ _ s
 refine ah (rA c hd ?_)
 show wpAny _ _ (setEntries a>>=_) _ _ s
 refine ah (nX d e h ?_)
 simp only[jj,fJ,dQ]
 refine ah (hn _ _ _ ?_)
 dsimp only
 refine ah (lK c hd (by simp) ?_)
 have b:=hi.put (k:=0) (v:=rawInt nx) o c
 refine ah (lK b (iQ hd _) (by simp) (aB ⟨x,rfl,aB (g _ ?_ ((SameBut.update ..).trans (SameBut.update ..)))⟩))
 refine⟨_,h_ _ b (vL (iQ (iQ hd _) _)),(Obj.cls_mapFields ..).trans ((Obj.cls_mapFields ..).trans hc),?_⟩
 rw[iQ (iQ hd _)]
 simp[rawInt]
end
theorem Fl:entryFor table "set_iterator.__iter__"=some Builtin.«dict_keyiterator.__iter__»:=
 entryFor_alias (id':="dict_keyiterator.__iter__") (by kernel_rfl) (by first|rfl|decide+kernel) (by decide+kernel) (by kernel_rfl)
theorem Dq(a:Value):argsOk "set_iterator.__iter__" ⟨[a],[]⟩:=by unfold argsOk;kernel_rfl
section
variable{prog:Program}{w:World}{A:Around}{E:aF}{s:Shared}{it a:Addr}{es:Array (Int×Value)}{ep:Nat}{t:SetTable}
theorem tV{first:Value}{i n:Nat}{Q:aF}(hi:dR s.heap it a first i n ep)(h:Q (.ref it) s):wpAny (model prog w) A (pyIter (.ref it)) Q E s:=by
 refine wpAny_pyIter_slot hi.typeIs BY (iP BY hi.typeIs Fl ?_ (Dq _));show wpAny _ _ (ret (.ref it)) _ _ s;exact aB ⟨_,rfl,"set_iterator",_,hi.typeIs,slot_next.lookup,h⟩
theorem yz{slot:Int}{i:Nat}{Q:Option Value->Shared->Prop}(f:A.handled=none)(hi:dR s.heap it a (.int slot 0) i es.size ep)(g:fO s.heap a es ep t)
  (hn:∀(A:Around) (Q:Option (Value×Nat)->Shared->Prop) (E:aF),Q none s->wpAny (model prog w) A (setNext a slot.toNat i ep) Q E s)
  (h:∀h',ExtBut it s.heap h'->Q none {s with heap:=h'}):wpAny (model prog w) A (pyNext (.ref it)) Q E s:=by
 obtain⟨o,e,hc,hd⟩:=id hi
 obtain⟨os,c,d,j⟩:=g
 unfold pyNext
 refine ah (nU (nV (name:=Str.ofString "__next__") hi.typeIs slot_next (iP slot_next hi.typeIs entry_next ?_ (args_next _))))
 show wpAny _ _ (fieldsOf (.ref it)>>=_) _ _ s
 refine ah (rA e hd ?_)
 show wpAny _ _ (setEntries a>>=_) _ _ s
 refine ah (nX c d j ?_)
 simp only[jj,fJ,dQ]
 refine ah (hn _ _ _ ?_)
 dsimp only
 refine ah (lK e hd (by simp) ?_)
 show wpAny _ _ (newExc (.type "StopIteration") []>>=_) _ _ _
 refine ah ?_
 simp only[newExc,newTuple]
 refine ah (eu ?_ (by size_fits))
 refine ah (m:=firstArgMember _ _) (wpAny_of_eq (a:=Value.none) (by first|rfl|(simp only[firstArgMember];rfl)) ?_)
 refine eu ?_ (by size_fits)
 simp only[raiseNew]
 refine ah (wpAny_handled ?_)
 rw[show A.in1.handled=none from f]
 refine ah (aB (wpAny_throw ?_))
 refine ah (wpAny_isInstance (T:="StopIteration") (b:=true) ⟨_,bK _ rfl,rfl⟩ isSubtype_stop ?_)
 exact aB (h _ (((SameBut.update ..).extBut.push _).push _))
theorem IT{d:Addr}{ps:List Nat}{i p:Nat}{h0:Int}{x:Value}{Q:Option Value->Shared->Prop}(hi:dR s.heap it a (.ref d) i es.size ep)(k:fO s.heap a es ep t)
  (l:∃o n,s.heap.get? d=some o/\o.data= .seq ((ps.map λ(i:Nat)=>rawInt i).toArray) n)(m:ps[i]? =some p)(q:es[p]? =some (h0,x))
  (r:∀h',dR h' it a (.ref d) (i+1) es.size ep->SameBut it s.heap h'->Q (some x) {s with heap:=h'}):wpAny (model prog w) A (pyNext (.ref it)) Q E s:=by
 obtain⟨o,f,hc,hd⟩:=id hi
 obtain⟨os,b,c,j⟩:=k
 obtain⟨u,v,g,h⟩:=l
 unfold pyNext
 refine ah (nU (nV (name:=Str.ofString "__next__") hi.typeIs slot_next (iP slot_next hi.typeIs entry_next ?_ (args_next _))))
 show wpAny _ _ (fieldsOf (.ref it)>>=_) _ _ s
 refine ah (rA f hd ?_)
 show wpAny _ _ (setEntries a>>=_) _ _ s
 refine ah (nX b c j ?_)
 simp only[jj,fJ,dQ]
 refine ah (lJ g h ?_)
 have e:((ps.map λ(i:Nat)=>rawInt i).toArray)[((i:Int)).toNat]? =some (Value.int (p:Int) 0):=by
  simp[m,rawInt]
 dsimp only
 rw[e]
 dsimp only
 refine ah ?_
 unfold setNextDrawn
 refine ah (lM b c j ?_)
 dsimp only
 simp only[q_,jj,fJ,dQ]
 rw[q]
 refine aB ?_
 refine ah (lK f hd (by simp) (aB ⟨x,rfl,aB (r _ ?_ (SameBut.update ..))⟩))
 refine⟨_,h_ _ f (vL (iQ hd _)),(Obj.cls_mapFields ..).trans hc,?_⟩
 rw[iQ hd]
 simp[rawInt]
theorem Fi{l:Addr}{ps:List Nat}{i:Nat}{Q:Option Value->Shared->Prop}(p:A.handled=none)(hi:dR s.heap it a (.ref l) i es.size ep)(q:fO s.heap a es ep t)
  (r:∃o n,s.heap.get? l=some o/\o.data= .seq ((ps.map λ(i:Nat)=>rawInt i).toArray) n)(u:ps[i]? =none)
  (x:∀h',ExtBut it s.heap h'->Q none {s with heap:=h'}):wpAny (model prog w) A (pyNext (.ref it)) Q E s:=by
 obtain⟨o,c,hc,hd⟩:=id hi
 obtain⟨os,d,f,y⟩:=q
 obtain⟨z,B,g,h⟩:=r
 unfold pyNext
 refine ah (nU (nV (name:=Str.ofString "__next__") hi.typeIs slot_next (iP slot_next hi.typeIs entry_next ?_ (args_next _))))
 show wpAny _ _ (fieldsOf (.ref it)>>=_) _ _ s
 refine ah (rA c hd ?_)
 show wpAny _ _ (setEntries a>>=_) _ _ s
 refine ah (nX d f y ?_)
 simp only[jj,fJ,dQ]
 refine ah (lJ g h ?_)
 have e:((ps.map λ(i:Nat)=>rawInt i).toArray)[((i:Int)).toNat]? =none:=by
  simp only[q_,List.getElem?_toArray,dP,u,Option.map_none]
 dsimp only
 rw[e]
 dsimp only
 refine ah (lK c hd (by simp) ?_)
 have j:=hi.put (k:=0) (v:=rawInt 0) o c
 refine ah (lK j (iQ hd _) (by simp) ?_)
 show wpAny _ _ (newExc (.type "StopIteration") []>>=_) _ _ _
 refine ah ?_
 simp only[newExc,newTuple]
 refine ah (eu ?_ (by size_fits))
 refine ah (m:=firstArgMember _ _) (wpAny_of_eq (a:=Value.none) (by first|rfl|(simp only[firstArgMember];rfl)) ?_)
 refine eu ?_ (by size_fits)
 simp only[raiseNew]
 refine ah (wpAny_handled ?_)
 rw[show A.in1.handled=none from p]
 refine ah (aB (wpAny_throw ?_))
 refine ah (wpAny_isInstance (T:="StopIteration") (b:=true) ⟨_,bK _ rfl,rfl⟩ isSubtype_stop ?_)
 exact aB (x _ ((((SameBut.update ..).trans (SameBut.update ..)).extBut.push _).push _))
end
section
variable{prog:Program}{w:World}{A:Around}{E:aF}{s:Shared}{it a:Addr}{es:Array (Int×Value)}{ep:Nat}{t:SetTable}
theorem oO{Q:Bool->Shared->Prop}(h:Q (w.params.followText "set-order") s):wpAny (model prog w) A setsByText Q E s:=by
 unfold setsByText;exact ah (wpAny_askSetting (aB h))
theorem fO.keep{h h':Heap}(x:fO h a es ep t)(k:∀o,h.get? a=some o->h'.get? a=some o):fO h' a es ep t:=by
 obtain⟨o,e,r⟩:=x;exact⟨o,k o e,r⟩
theorem dR.keep{h h':Heap}{first:Value}{i n:Nat}(x:dR h it a first i n ep)(k:∀o,h.get? it=some o->h'.get? it=some o):dR h' it a first i n ep:=by
 obtain⟨o,e,r⟩:=x;exact⟨o,k o e,r⟩
theorem nextT{slot i:Nat}{Q:Option (Value×Nat)->Shared->Prop}(d:w.params.followText "set-order"=true)(g:fO s.heap a es ep t)
  (h:Q (((pickOrder (w.params.setOrder a ep) es)[i]?).map λe=>(e.2,slot)) s):wpAny (model prog w) A (setNext a slot i ep) Q E s:=by
 obtain⟨os,b,c,f⟩:=g;unfold setNext;refine ah (lM b c f ?_);dsimp only;refine ah (oO ?_);rw[d,ao rfl];simp only[jj,fJ,dQ];refine ah ?_;unfold setWalk;refine ah (lM b c f ?_);dsimp only;refine ah (oO ?_);rw[d,ao rfl];exact ah (wpAny_askSetting (aB (aB h)))
theorem Nj(p:w.params.followText "set-order"=true)(q:A.handled=none)(l:a≠it):
  Walks prog w A it [it,a] [it] ((pickOrder (w.params.setOrder a ep) es).toList.map (·.2)).length (λi v=>((pickOrder (w.params.setOrder a ep) es).toList.map (·.2))[i]? =some v) (λi h=>dR h it a (.int 0 0) i es.size ep/\fO h a es ep t) where
 sub:=λb d=>by simp at d;simp[d]
 frame:=λ_ _ _ st hk=>⟨st.1.keep λo e=>hk it (by simp) o e,st.2.keep λo e=>hk a (by simp) o e⟩
 item:=λi s Q E hi st f=>by
  have c:i<(pickOrder (w.params.setOrder a ep) es).size:=by simpa using hi
  have k:(pickOrder (w.params.setOrder a ep) es)[i]? =some ((pickOrder (w.params.setOrder a ep) es)[i]'c):=fZ c
  refine zP (slot:=0) (x:=((pickOrder (w.params.setOrder a ep) es)[i]'c).2) (nx:=0) st.1 st.2 (λA' r u m=>nextT p st.2 (by rw[k];exact m)) λh' g j=> ?_
  refine f _ h' s.toks ?_ ⟨g,st.2.keep λo e=>(j.2 a l).trans e⟩ λb o d e=>(j.2 b λz=>d (by simp[z])).trans e
  rw[dP,ie,k];rfl
 done:=λs Q E st f=>by
  have k:(pickOrder (w.params.setOrder a ep) es)[((pickOrder (w.params.setOrder a ep) es).toList.map (·.2)).length]? =none:=by simp
  exact yz (slot:=0) q st.1 st.2 (λA' r u m=>nextT p st.2 (by rw[k];exact m)) λh' n=>f h' s.toks λb o d e=>n b o (λz=>d (by simp[z])) e
 self:=λ_ _ _ _ st f=>tV st.1 f
theorem Nh{g:Addr}{ps:List Nat}(C:A.handled=none)(m:a≠it)(q:g≠it)(u:ps.Perm (range es.size)):
  Walks prog w A it [it,a,g] [it] (ps.map λp=>((es[p]?).getD (0,.none)).2).length (λi v=>(ps.map λp=>((es[p]?).getD (0,.none)).2)[i]? =some v)
   (λi h=>dR h it a (.ref g) i es.size ep/\fO h a es ep t/\∃o n,h.get? g=some o/\o.data= .seq ((ps.map λ(i:Nat)=>rawInt i).toArray) n) where
 sub:=λb j=>by simp at j;simp[j]
 frame:=λ_ _ _ st hk=>⟨st.1.keep λo e=>hk it (by simp) o e,st.2.1.keep λo e=>hk a (by simp) o e,by obtain⟨o,n,e,r⟩:=st.2.2;exact⟨o,n,hk g (by simp) o e,r⟩⟩
 item:=λi s Q E hi st k=>by
  have c:i<ps.length:=by simpa using hi
  have y:ps[i]? =some (ps[i]'c):=bS c
  have d:(ps[i]'c)<es.size:=mem_range.mp (u.mem_iff.mp (cA c))
  have B:es[ps[i]'c]? =some ((es[ps[i]'c]'d).1,(es[ps[i]'c]'d).2):=fZ d
  refine IT st.1 st.2.1 st.2.2 y B λh' l f=> ?_
  refine k _ h' s.toks ?_ ⟨l,st.2.1.keep λo e=>(f.2 a m).trans e,by obtain⟨o,n,e,r⟩:=st.2.2;exact⟨o,n,(f.2 g q).trans e,r⟩⟩ λb o j e=>(f.2 b λz=>j (by simp[z])).trans e
  rw[dP,y]
  simp only[map_some,B,getD_some]
 done:=λs Q E st k=>by
  exact Fi C st.1 st.2.1 st.2.2 (by simp) λh' x=>k h' s.toks λb o j e=>x b o (λz=>j (by simp[z])) e
 self:=λ_ _ _ _ st k=>tV st.1 k
theorem zO{slot i:Nat}{Q:Option (Value×Nat)->Shared->Prop}(d:w.params.followText "set-order"=false)(e:t.led=true)(f:es.size<=1)(g:fO s.heap a es ep t)
  (h:Q (match es[SetTable.below t.place slot]?,t.place[SetTable.below t.place slot]? with|some (_,x),some j=>some (x,j+1)|_,_=>none) s):wpAny (model prog w) A (setNext a slot i ep) Q E s:=by
 obtain⟨os,b,c,k⟩:=g;unfold setNext;refine ah (lM b c k ?_);dsimp only;refine ah (oO ?_);rw[d,av (by decide)];show wpAny _ _ (if (!t.plain&&decide (es.size>1))=true then _ else _) _ _ _;rw[av (by rw[dg (Nat.not_lt.mpr f),Bool.and_false];decide)];show wpAny _ _ ((if (!t.led&& !es.isEmpty)=true then _ else _)>>=_) _ _ _;rw[e,av (by simp)];exact ah (aB (aB h))
theorem xx(xs:Array Nat)(h:xs.size<=1):SetTable.below xs 0=0:=by
 unfold SetTable.below;have:xs.size=0\/xs.size=1:=by omega
 rcases this with z|z
 .rw[z];rfl
 .rw[z]
  unfold SetTable.below.go;rw[ao (by decide)];dsimp only;rw[av (by omega)];rfl
theorem below_1(xs:Array Nat)(j:Nat)(h:xs.size=1)(a:xs[0]?=some j):SetTable.below xs (j+1)=1:=by
 unfold SetTable.below;rw[h];unfold SetTable.below.go;rw[ao (by decide)];dsimp only;have e:xs.getD ((0+1)/2) (j+1)=j:=by
  show xs.getD 0 (j+1)=j;rw[vN,a];rfl
 rw[e,ao (by omega)];rfl
theorem Ni(y:w.params.followText "set-order"=false)(B:t.led=true)(C:es.size<=1)(n:t.fits es.size=true)(F:A.handled=none)(q:a≠it):
  Walks prog w A it [it,a] [it] (es.toList.map (·.2)).length (λi v=>(es.toList.map (·.2))[i]? =some v) (λi h=>dR h it a (.int (if i=0 then 0 else t.place.getD 0 0+1:Nat) 0) i es.size ep/\fO h a es ep t) where
 sub:=λb d=>by simp at d;simp[d]
 frame:=λ_ _ _ st hk=>⟨st.1.keep λo e=>hk it (by simp) o e,st.2.keep λo e=>hk a (by simp) o e⟩
 item:=λi s Q E hi st f=>by
  have c:i<es.size:=by simpa using hi
  have h0:i=0:=by omega
  subst h0
  have G:t.place.size=es.size:=by simp only[SetTable.fits,bZ,gX] at n;exact n.1
  have D:es[0]? =some (es[0]'c):=fZ c
  have g:t.place[0]? =some (t.place[0]'(by omega)):=fZ (by omega)
  have r:t.place.getD 0 0=t.place[0]'(by omega):=by rw[vN,g];rfl
  refine zP (slot:=((if (0:Nat)=0 then 0 else t.place.getD 0 0+1:Nat):Int)) (x:=(es[0]'c).2) (nx:=(t.place[0]'(by omega))+1) st.1 st.2 (λA' H I p=> ?_) λh' j k=> ?_
  .refine zO y B C st.2 ?_
   simp only[gx,q_]
   rw[xx _ (by omega),D,g]
   exact p
  .refine f _ h' s.toks ?_ ⟨?_,st.2.keep λo e=>(k.2 a q).trans e⟩ λb o d e=>(k.2 b λz=>d (by simp[z])).trans e
   .rw[dP,ie,D];rfl
   .rw[av (by omega),r];exact j
 done:=λs Q E st f=>by
  have G:t.place.size=es.size:=by simp only[SetTable.fits,bZ,gX] at n;exact n.1
  have l:(es.toList.map (·.2)).length=es.size:=by simp
  rw[l] at st
  refine yz F st.1 st.2 (λA' H I p=>zO y B C st.2 ?_) λh' u=>f h' s.toks λb o d e=>u b o (λz=>d (by simp[z])) e
  simp only[q_]
  by_cases m:es.size=0
  .rw[ao m,xx _ (by omega),rJ (by omega)]
   exact p
  .have g:t.place[0]? =some (t.place[0]'(by omega)):=fZ (by omega)
   have r:t.place.getD 0 0=t.place[0]'(by omega):=by rw[vN,g];rfl
   rw[av m,r,below_1 _ _ (by omega) g,rJ (by omega)]
   exact p
 self:=λ_ _ _ _ st f=>tV st.1 f
end
section
variable{prog:Program}{w:World}{A:Around}{E:aF}{s:Shared}{it a:Addr}{es:Array (Int×Value)}{ep:Nat}{t:SetTable}
theorem J7{ps:List Nat}(a:ps.Perm (range es.size)):(ps.map λp=>((es[p]?).getD (0,.none)).2).Perm (es.toList.map (·.2)):=by
 refine(a.map _).trans ?_;have:((range es.size).map λp=>((es[p]?).getD (0,.none)).2)=es.toList.map (·.2):=by
  apply List.ext_getElem?;intro i;simp only[dP,ie];by_cases hi:i<es.size
  .rw[List.getElem?_range hi,fZ hi]
   simp[fZ hi]
  .rw[vH (by simpa using hi),rJ (by omega)];rfl
 rw[this]
theorem Hw{Q:aF}(D:c7 prog w s.heap a es)
  (h:∀(h':Heap) (d:Drawn) (it:Addr) (zs:List Value) (fp:List Addr) (St:Nat->Heap->Prop),zs.Perm (es.toList.map (·.2))->(∀A':Around,A'.handled=none->Walks prog w A' it fp [it] zs.length (λi v=>zs[i]?=some v) St)->St 0 h'->
   it∈fp->(∀b∈fp,b=a\/s.heap.objs.size<=b)->(∀b∈fp,b<h'.objs.size)->s.heap.objs.size<=it->(∀b o,s.heap.get? b=some o->h'.get? b=some o)->Q (.ref it) {s with heap:=h',drawn:=d}):wpAny (model prog w) A (pyIter (.ref a)) Q E s:=by
 obtain⟨o,ep,t,f,hex,hd,F,G,H,g,k,x⟩:=D;have C:s.TypeIs (.ref a) "set":=⟨o,f,hex.1⟩;have alt:a<s.heap.objs.size:=aQ f;refine wpAny_pyIter_slot C BX (iP BX C Fj ?_ (Dn _));show wpAny _ _ (Builtin.Frozenset.sizeOf a>>=_) _ _ s;unfold Builtin.Frozenset.sizeOf;refine ah (ah (nX f hd g (aB ?_)));refine ah ?_;unfold setDrawn;refine ah (lM f hd g ?_);dsimp only;refine ah (oO (aB ?_));show wpAny _ _ (if (!w.params.followText "set-order"&&(!t.plain&&decide (es.size>1)))=true then _ else _) _ _ _;by_cases hc:(!w.params.followText "set-order"&&(!t.plain&&decide (es.size>1)))=true
 .rw[ao hc]
  refine ah (yt _ _ _ _ (by simp) λys d j=>?_);unfold newTuple;have y:sizeOk (.seq ((ys.map λ(i:Nat)=>rawInt i).toArray) 0):=by
   show((ys.map λ(i:Nat)=>rawInt i).toArray).size<=sizeLine;rw[bY,bB,j.length_eq,List.length_range];exact rH H
  refine ah (eu ?_ y);have l:=λb o (e:s.heap.get? b=some o)=>bw {cls:=.type "tuple",data:=.seq ((ys.map λ(i:Nat)=>rawInt i).toArray)} e;have m:=l a o f;refine ah (wpAny_setEpoch_of m hd g ?_);refine ah (eu (aB ⟨_,rfl,"set_iterator",_,⟨_,bK _ rfl,rfl⟩,slot_next.lookup,?_⟩) (by size_fits));have ne1:a≠(s.heap.push {cls:=.type "tuple",data:=.seq ((ys.map λ(i:Nat)=>rawInt i).toArray)}).objs.size:=by rw[cS];exact bq (fj alt)
  have ne2:s.heap.objs.size≠(s.heap.push {cls:=.type "tuple",data:=.seq ((ys.map λ(i:Nat)=>rawInt i).toArray)}).objs.size:=by rw[cS];exact bq (iR _)
  refine h _ d _ (ys.map λp=>((es[p]?).getD (0,.none)).2) [_,a,s.heap.objs.size] _ (J7 j) (λA' n=>Nh (t:=t) (ep:=ep) n ne1 ne2 j) ⟨⟨_,bK _ rfl,rfl,rfl⟩,⟨o,bw _ m,hd,g⟩,⟨_,_,bw _ (bK _ rfl),rfl⟩⟩ (by simp) (λb c=>by
   simp only[aW,eW,eY] at c;rcases c with z|z|z
   .exact .inr (by rw[z,cS];exact le_succ _)
   .exact .inl z
   .exact .inr (by rw[z];exact aI _)) (λb c=>?_) (by rw[cS];exact le_succ _) λb o e=>bw _ (l b o e)
  rw[cS,cS];simp only[aW,eW,eY] at c;rcases c with z|z|z
  .rw[z,cS];exact iR _
  .rw[z];exact fj (fj alt)
  .rw[z];exact fj (iR _)
 .rw[av hc]
  refine ah (aB ?_);refine ah (wpAny_setEpoch_of f hd g ?_);refine ah (eu (aB ⟨_,rfl,"set_iterator",_,⟨_,bK _ rfl,rfl⟩,slot_next.lookup,?_⟩) (by size_fits));have ne1:a≠s.heap.objs.size:=bq alt;have q:∀b∈[s.heap.objs.size,a],b<(s.heap.push {cls:=.type "set_iterator",data:=.fields [rawInt 0,rawInt 0,.ref a,rawInt (es.size:Nat),rawInt (ep:Nat)].toArray}).objs.size:=λb c=>by
   rw[cS];simp only[aW,eW,eY] at c;rcases c with z|z
   .rw[z];exact iR _
   .rw[z];exact fj alt
  have r:∀b∈[s.heap.objs.size,a],b=a\/s.heap.objs.size<=b:=λb c=>by
   simp only[aW,eW,eY] at c;rcases c with z|z
   .exact .inr (by rw[z];exact aI _)
   .exact .inl z
  cases u:w.params.followText "set-order" with
  |true=>
   exact h _ s.drawn _ ((pickOrder (w.params.setOrder a ep) es).toList.map (·.2)) [_,a] _ ((J_ _ es).map _) (λA' n=>Nj (t:=t) u n ne1) ⟨⟨_,bK _ rfl,rfl,rfl⟩,⟨o,bw _ f,hd,g⟩⟩ (by simp) r q (aI _) λb o e=>bw _ e
  |false=>
   have B:es.size<=1:=by
    rw[u] at hc;by_cases B:es.size<=1
    .exact B
    .rw[x (by omega),dN (by omega)] at hc
     exact absurd rfl hc
   have I:t.led=true:=by rw[k,u];rfl
   exact h _ s.drawn _ (es.toList.map (·.2)) [_,a] _ (.refl _) (λA' n=>Ni (t:=t) (ep:=ep) u I B g n ne1) ⟨⟨_,bK _ rfl,rfl,rfl⟩,⟨o,bw _ f,hd,g⟩⟩ (by simp) r q (aI _) λb o e=>bw _ e
end
section
variable{prog:Program}{w:World}{A:Around}{E:aF}{s:Shared}{a:Addr}{es:Array (Int×Value)}
theorem DU{Q:List Value->Shared->Prop}(J:A.handled=none)(B:c7 prog w s.heap a es)
  (N:∀(h':Heap) (d:Drawn) (tk:Nat) (zs:List Value),zs.Perm (es.toList.map (·.2))->s.heap.objs.size<=h'.objs.size->(∀b o,s.heap.get? b=some o->h'.get? b=some o)->Q zs {s with heap:=h',drawn:=d,toks:=tk}):
  wpAny (model prog w) A (collect (.ref a)) Q E s:=by
 have alt:a<s.heap.objs.size:=by obtain⟨o,_,_,C,_⟩:=B;exact aQ C
 have O:es.size<scanBound:=by obtain⟨_,_,_,_,_,_,_,_,f,_⟩:=B;exact f
 unfold collect;refine ah (wpAny_runValue (gw PySem.F.entry_proto_collect ?_));rw[gY PySem.F.plain_proto_collect _];show wpAny _ A.in1 (newList []>>=λl=>again (.builtin "list.__iadd__" ⟨[l,.ref a],[]⟩)) _ _ s;refine ah (eu ?_);refine aB ⟨gq PySem.F.plain_list_iadd _,gw PySem.F.entry_list_iadd ?_⟩;rw[gY PySem.F.plain_list_iadd _];have i:c7 prog w (s.heap.push {cls:=.type "list",data:=.seq ([]:List Value).toArray}) a es:=B.keeps λo e=>bw _ e;have v:∀{s':Shared},c7 prog w s'.heap a es->s'.TypeIs (.ref a) "set":=λ {s'} x=>by obtain⟨o,_,_,C,hex,_⟩:=x;exact⟨o,C,hex.1⟩
 show wpAny _ A.in1 (Builtin.List.listExtendWith (.ref s.heap.objs.size) (.ref a) (.ref s.heap.objs.size)) _ _ _;unfold Builtin.List.listExtendWith;refine ah (lN (v (s':={s with heap:=s.heap.push {cls:=.type "list",data:=.seq ([]:List Value).toArray}}) i) ?_);have h1:Builtin.List.listSameRef (.ref s.heap.objs.size) (.ref a)=false:=by simp[Builtin.List.listSameRef,je alt]
 have h2:(Value.type "set" ==Value.type "list")=false:=by decide
 have h3:(Value.type "set" ==Value.type "tuple")=false:=by decide
 simp only[h1,h2,h3,Bool.or_false,fJ,dQ];refine ah (Hw (s:={s with heap:=s.heap.push {cls:=.type "list",data:=.seq ([]:List Value).toArray}}) i λh2 d it zs fp St m W D hit G P n k2=>?_);have k:c7 prog w h2 a es:=i.keeps λo e=>k2 _ _ e;refine ah (fY ?_);unfold Builtin.List.listLengthHint;refine ah (wpAny_specialOf (v (s':={s with heap:=h2,drawn:=d}) k) PySem.F.slot_set_len.lookup ?_);dsimp only;have g:splitId "set.__len__"=some ("set","__len__"):=by decide+kernel
 rw[g];dsimp only;refine ah (wpAny_isInstance (v (s':={s with heap:=h2,drawn:=d}) k) sub_set_self ?_);simp only[Bool.not_true,fJ,dQ];rw[ao (by decide+kernel)];refine ah (lN (v (s':={s with heap:=h2,drawn:=d}) k) ?_);refine aB ?_;rw[ao (by decide+kernel)];refine ah (gS ?_);have R:(s.heap.push {cls:=.type "list",data:=.seq ([]:List Value).toArray}).get? s.heap.objs.size=some {cls:=.type "list",data:=.seq ([]:List Value).toArray}:=bK _ rfl;have K:=k2 _ _ R;have p:s.heap.objs.size∉fp:=λz=>by
  rcases G _ z with e|e
  .exact absurd alt (by rw[<-e];exact eZ _)
  .rw[cS] at e
   exact absurd e (Nat.not_succ_le_self _)
 have q:s.heap.objs.size<it:=by rw[cS] at n;exact n
 refine ah ?_;show wpAny _ A.in1 (updateSeq s.heap.objs.size (·.push .none)>>=λ_=>updateSeq s.heap.objs.size (·.pop)) _ _ _;refine ah (n5 K rfl ?_);have L2:=h_ (Obj.mapSeq (·.push Value.none)) K rfl;refine n5 L2 rfl ?_;have S:=h_ (Obj.mapSeq (·.pop)) L2 rfl;have r:∀b o,b≠s.heap.objs.size->h2.get? b=some o->((h2.update s.heap.objs.size (Obj.mapSeq (·.push Value.none))).update s.heap.objs.size (Obj.mapSeq (·.pop))).get? b=some o:=
  λb o f e=>(jo _ _ (Ne.symm f)).trans ((jo _ _ (Ne.symm f)).trans e)
 have T:=(W A.in1 J).toS;have hn:zs.length<=sizeLine:=by rw[m.length_eq,bB,bH];exact rH O
 refine aB ⟨gq PySem.F.plain_extend_loop _,codeAny_extend_loopS T hn _ p _ zs.length 0 _ _ _ rfl (c5 _) ((W A.in1 J).frame 0 _ _ D λb f o e=>r b o (λz=>p (z▸f)) e) S (ItemsOf.nil _) λs' c c' y t h=>?_⟩;show wpAny _ A (load s.heap.objs.size>>=_) _ _ s';refine ah (wpAny_load t ?_);have u:c.toList=zs:=by
  apply List.ext_getElem?;intro j;rw[ie];by_cases L:j<c.size
  .have M:c[j]?=some (c[j]'L):=fZ L
   rw[M];exact(h.2 j _ M).symm
  .rw[rJ (by omega),vH (by rw[<-h.1];omega)]
 obtain⟨h',g',d',H,I⟩:=s';have U:g'=s.gens:=y.gens;have V:d'=d:=y.drawn;have X:I=s.os:=y.os;subst U;subst V;subst X;refine aB ?_;show Q c.toList _;rw[u];have kp:∀b o,s.heap.get? b=some o->h'.get? b=some o:=λb o e=>by
  have f:b<s.heap.objs.size:=aQ e;refine y.heap b o ?_ (r b o (bq f) (k2 _ _ (bw _ e)));simp only[aW,eW,eY,not_or];exact⟨bq f,bq (lt_trans f q)⟩
 exact N h' d' H zs m (jq (aQ t)) kp
theorem qL{l:List (Int×Value)}(h:ElemsOf (PySem.strKind prog w) l):∀{zs:List Value},zs.Perm (l.map (·.2))->StrsAre zs (zs.map strOf):=λ {zs} a=>by
 have:∀v∈zs,∃t,v=Value.str (strOf v) t:=λv b=>by
  obtain⟨e,c,rfl⟩:=b9.mp (a.mem_iff.mp b);exact sX h c
 clear a;induction zs with
 |nil=>exact .nil
 |cons v r d=>
  obtain⟨t,e⟩:=this v (by simp);have r':=d λf h'=>this f (by simp[h']);rw[eB];rw[e];exact .cons _ t r'
theorem L5{Q:aF}(y:A.handled=none)(u:c7 prog w s.heap a es)(k:es.size<64)
  (h:∀(h':Heap) (d:Drawn) (tk:Nat) (l:Addr) (e:Nat) (out:List Value) (ss:List Str),s.heap.objs.size<=l->h'.get? l=some (seqObj "list" out.toArray e)->StrsAre out ss->ss.Perm (names es)->sortedS ss=true->
   (∀b o,s.heap.get? b=some o->h'.get? b=some o)->Q (.ref l) {s with heap:=h',drawn:=d,toks:=tk}):
  wpAny (model prog w) A (call (.builtin "sorted") [.ref a]) Q E s:=by
 have c:ElemsOf (PySem.strKind prog w) es.toList:=by obtain⟨_,_,_,_,_,_,c,_⟩:=u;exact c
 refine Calls.call_function_entry kind_sorted plain_sorted entry_sorted (args_sorted1 _) ?_;unfold Builtin.«sorted»;refine ah (m:=checkCount "sorted" 1 1 _) (aB ?_);refine ah (DU y u λh1 d tk zs n p k1=>?_);have f:StrsAre zs (zs.map strOf):=qL c n;have i:zs.length<64:=by rw[n.length_eq,bB,bH];exact k
 refine ah (wpAny_newList ?_);have g:(h1.push (seqObj "list" zs.toArray 0)).get? h1.objs.size=some (seqObj "list" zs.toArray 0):=bK _ rfl;show wpAny _ _ _ _ _ {s with heap:=h1.push (seqObj "list" zs.toArray 0),drawn:=d,toks:=tk};refine ah (fY (iP slot_list_sort ⟨_,g,rfl⟩ entry_list_sort (list_sort_treeK strKind_oneLt g f.keysOf (λv x rest e=>keyKind_strs (by rw[<-e];exact f)) i λj a1 a2=>⟨_,rfl,?_⟩) (args_list_sort _)));obtain⟨r,z,B,C⟩:=sorted_out_str f a1 a2;obtain⟨e,D⟩:=sortedHeap_at (out:=(arrOf j).map (·.2)) g;refine aB ⟨_,rfl,h _ d tk h1.objs.size e ((arrOf j).map (·.2)).toList r p (by rw[Array.toArray_toList];exact D) z (B.trans ?_) C λb o q=>?_⟩
 .have:=n.map strOf
  rw[iS] at this;exact this
 .have t:=k1 b o q
  rw[sortedHeap_old (bq (aQ t)) (by rw[size_push'];exact fj (aQ t))];exact bw _ t
end
end SS
namespace L2
section
variable{X:Cx}
theorem Mk{xs:List Str}{its:List Value}(r:Vals (xs.map V.str) its):∀(i:Nat) (v:Value),its.toArray[i]?=some v->∃t:Tok,v=Value.str (xs.getD i ⟨#[]⟩) t:=λi v h=>by
 have h':its[i]?=some v:=by simpa using h
 have b:=r.length;have hi:i<its.length:=(cT.mp h').1;have c:(xs.map V.str)[i]?=some (V.str (xs.getD i ⟨#[]⟩)):=by
  rw[dP,lR];have:i<xs.length:=by rw[<-b,bB] at hi;exact hi
  rw[bS this];rfl
 obtain⟨u,a,ru⟩:=r.get c;rw[h'] at a;cases a;exact ru
def strLt(a b:Str):Prop:=a.cps.toList<b.cps.toList
theorem AJ:∀(p:Str) (l:List Str),risingS p l=true->(p::l).Pairwise (λa b=>¬b.cps.toList<a.cps.toList)
 |p,[],_=>List.pairwise_singleton _ _
 |p,x::r,h=>by
  simp only[risingS,bZ,nP,ltCps_eq,lO] at h;have c:=AJ x r h.2;refine lG.mpr ⟨λy d=>?_,c⟩;rcases aW.mp d with e|e
  .rw[e];exact h.1
  .have:=(lG.mp c).1 y e
   exact λz=>(not_lt.mp this)|>λq=>absurd z (not_lt.mpr (List.le_trans (not_lt.mp h.1) q))
theorem L4{l:List Str}(h:sortedS l=true):l.Pairwise (λa b=>¬b.cps.toList<a.cps.toList):=by
 cases l with
 |nil=>exact .nil
 |cons x r=>exact AJ x r h
theorem Mj{l:List Str}(h:l.Pairwise (λa b=>¬b.cps.toList<a.cps.toList))(nd:l.Nodup):l.Pairwise strLt:=by
 refine(h.and nd).imp λ {a b} q=>?_;by_cases z:a.cps.toList<b.cps.toList
 .exact z
 .have e:a.cps.toList=b.cps.toList:=le_antisymm (not_lt.mp q.1) (not_lt.mp z)
  refine absurd ?_ q.2;obtain⟨⟨la⟩⟩:=a;obtain⟨⟨lb⟩⟩:=b;have c:la=lb:=e;rw[c]
def MS(K:Frag)(ta:TA):TE:=λσ H Q=>ta σ H λvs H1=>∃(a:Addr) (xs:List Str),vs=[.ref a]/\aZ K H1 a (xs.map V.str)/\xs.length<64/\
 ∀(l:Addr) (ys:List Str),H1 l=none->ys.Pairwise strLt->(∀x,x∈ys↔x∈xs)->Q (.ref l) (upd H1 l (.lst (ys.map V.str)))
theorem Cu:∀{out:List Value} {ss:List Str},StrsAre out ss->Vals (ss.map V.str) out
 |_,_,.nil=>.nil
 |_,_,.cons x t h=>.cons ⟨t,rfl⟩ (Cu h)
theorem J3{e:Expr}{ta:TA}{U p2 w f:Pos}(F:X.mg "sorted"=none)(G:X.mg "set"=none)(hc:X.calm=true)(W:PA X [e] ta)(J:Gl X "sorted":=by rfl)(L:Gl X "set":=by rfl)
  (Y:starEach [e] X.env=[(false,eval e X.env)]:=by rfl)(R:starEach [.Call (.Name "set" p2) [e] [] f] X.env=[(false,eval (.Call (.Name "set" p2) [e] [] f) X.env)]:=by rfl):
  PE X (.Call (.Name "sorted" U) [.Call (.Name "set" p2) [e] [] f] [] w) (MS X.K ta):=by
 intro pins s σ H Q I h;refine nT (mR I J F (show bootBuiltins "sorted"=some (.builtin "sorted") by with_unfolding_all rfl) ?_);refine PyProof.Rows.callWith_builtin1 ?_ R rfl;rw[R];refine Calls.spliced_cons (nT (mR I L G (show bootBuiltins "set"=some (.type "set") by with_unfolding_all rfl) (PyProof.Rows.callWith_type1 (aJ (W f pins s σ H _ I h) λus y ⟨vs,H1,m,Z,q1⟩=>?_) Y rfl)));obtain⟨a,xs,e,hq,h64,q⟩:=q1;subst e;obtain⟨u,rfl,ru⟩:=vals1 Z;cases ru;obtain⟨its,S,pl,N6⟩:=m.list hq;have hl:=S.length;have A:its.toArray.size=xs.length:=by rw[bY,<-hl,bB]
 refine SS.DJ (val:=λi=>xs.getD i ⟨#[]⟩) (m.ok.hd hc) pl.isList (λi v hv=>Mk S i v hv) (by rw[A,show scanBound=4096 from rfl];omega) λh2 tk es M T B k2=>?_;have k:es.size<64:=by omega
 have g:∀b o,y.heap.get? b=some o->h2.get? b=some o:=λb o e=>k2 b o (aQ e) e;refine Calls.spliced_nil ?_;refine SS.L5 (s:={y with heap:=h2,toks:=tk}) (m.ok.hd hc) M k λh3 d C l ep out ss p N O c r k3=>?_;have alt:y.heap.objs.size<h2.objs.size:=by obtain⟨o,_,_,ho,_⟩:=M;exact aQ ho
 have hn:H1 l=none:=m.hok.fresh (cM (jq alt) p);have nd:ss.Nodup:=c.nodup_iff.mpr (by obtain⟨_,_,_,_,_,_,_,P,_⟩:=M;exact P);have t:∀x,x∈ss↔x∈xs:=λx=>by
  rw[c.mem_iff,B x,A];constructor
  .rintro ⟨j,D,rfl⟩
   rw[lR,bS D];exact cA D
  .intro hx
   obtain⟨j,D,e⟩:=lS hx;exact⟨j,D,by rw[lR,bS D];exact e⟩
 have E:ss.length=es.size:=by rw[c.length_eq,bB,bH]
 have I2:Inv X pins σ (upd H1 l (.lst (ss.map V.str))) {y with heap:=h3,drawn:=d,toks:=C}:=by
  refine m.call (ch:=[]) (g':=y.gens) (d':=d) (t':=C) (h':=h3) (H':=upd H1 l (.lst (ss.map V.str))) ⟨λb o q _ _ _=>k3 b o (g b o q),λb o q _ _ _=>⟨o.slots,k3 b o (g b o q)⟩,λb o q n _=>?_,λb o q _=>⟨o,k3 b o (g b o q)⟩,λb xs q=>?_,λb o u q=>?_,λb ps q=>⟨#[],?_⟩⟩ ?_ m.bare λb z=>absurd z (by simp)
  .rw[bA (bq (cB (aQ q) (cM (jq alt) p)))];exact n
  .rw[bA (dJ q hn)];exact q
  .rw[bA (dJ q hn)];exact q
  .rw[bA (dJ q hn),q];simp
  .exact m.hok.laid (λb u q=>k3 b u (g b u q)) (cM (jq alt) p) ⟨by rw[bB,E];exact jq (cB k (by decide)),out,ep,Cu O,N⟩
 exact⟨.ref l,_,I2,rfl,q l ss hn (Mj (L4 r) nd) t⟩
end
theorem uH(ns:List Int):∀k,k<=ns.length->preSum (λi=>ns.getD i 0) k=(ns.take k).sum
 |0,_=>by simp[preSum]
 |k+1,h=>by
  have e:preSum (λi=>ns.getD i 0) (k+1)=preSum (λi=>ns.getD i 0) k+ns.getD k 0:=by
   first|rfl|(unfold preSum;simp[List.range_succ])
  rw[e,uH ns k (by omega),List.take_add_one,bS (by omega),List.sum_append,lR,bS (by omega)];simp
theorem B9:∀(ns:List Int) (b:Int),(∀n∈ns,0<=n/\n<=b)->0<=ns.sum/\ns.sum<=b*ns.length
 |[],b,_=>by simp
 |x::r,b,h=>by
  obtain⟨h1,h2⟩:=h x (by simp);obtain⟨h3,a⟩:=B9 r b λn hn=>h n (by simp[hn]);rw[List.sum_cons,dZ];refine⟨by omega,?_⟩;have:b*((r.length+1:Nat):Int)=b*(r.length:Int)+b:=by rw[Int.natCast_add,Int.mul_add];simp
  rw[this];omega
section
variable{X:Cx}
theorem DM(hc:X.calm=true):cV X (.builtin "sum") (λxs H Q=>∃(p:Addr) (ns:List Int),xs=[.ref p]/\aZ X.K H p (ns.map V.int)/\(∀n∈ns,0<=n/\n<=2 ^ 40)/\ns.length<=1000/\Q (.int ns.sum) H):=by
 intro pins s σ H xs D Q I r h;obtain⟨p,ns,rfl,x,m,E,q⟩:=h;obtain⟨u,rfl,ru⟩:=vals1 r;cases ru;obtain⟨d,o,y,F⟩:=I.list x;have a:d.length=ns.length:=by rw[<-o.length,bB]
 have c:=y.isList;have f:p<s.heap.objs.size:=by obtain⟨_,e,_⟩:=c;exact aQ e
 have small:∀k,k<=ns.length->InLong (preSum (λi=>ns.getD i 0) k):=λk hk=>by
  rw[uH ns k hk];obtain⟨h1,h2⟩:=B9 (ns.take k) (2 ^ 40) λn hn=>m n (cZ hn);have h3:((ns.take k).length:Int)<=1000:=by rw[f6];omega
  have G:(2 ^ 40:Int)*((ns.take k).length:Int)<=2 ^ 40*1000:=Int.mul_le_mul_of_nonneg_left h3 (by decide);unfold InLong;first|(constructor<;>omega)|omega
 refine call_sum_walk (nW c ?_);refine⟨s.heap.objs.size,[s.heap.objs.size,p],[s.heap.objs.size],d.toArray.size,_,_,λi=>ns.getD i 0,rfl,Walks.list (A:=X.A.in1) (I.ok.hd hc) _ p (bq f) d.toArray,
  ⟨⟨_,bK _ rfl,rfl,rfl⟩,c.push _⟩,λb g=>?_,λi v B=>?_,λj t=>⟨?_,small (j+1) (by simp at t;omega)⟩,λh' tk t' hk=>?_⟩
 .rw[cS]
  simp only[aW,eW,eY] at g;rcases g with z|z
  .rw[z];exact iR _
  .rw[z];exact fj f
 .have h':d[i]?=some v:=by simpa using B
  have hi:i<ns.length:=by rw[<-a];exact(cT.mp h').1
  have C:(ns.map V.int)[i]?=some (V.int (ns.getD i 0)):=by
   rw[dP,lR,bS hi];rfl
  obtain⟨u,w,ru⟩:=o.get C;rw[h'] at w;cases w;exact ru
 .have l:j<ns.length:=by simp at t;omega
  obtain⟨h1,h2⟩:=m (ns.getD j 0) (by rw[lR,bS l];exact cA l);show InLong (ns.getD j 0);unfold InLong;first|(constructor<;>omega)|omega
 .have e:preSum (λi=>ns.getD i 0) d.toArray.size=ns.sum:=by
   rw[bY,a,uH ns _ (aI _),List.take_length]
  rw[e];exact⟨.int _,H,I.kept (h':=h') (t':=tk) (LSm.kept_iter hk),⟨_,rfl⟩,q⟩
end
section
variable{X:Cx}
theorem empty_app(x:Str):Str.empty++x=x:=by
 obtain⟨c⟩:=x;show Str.mk (#[]++c)=⟨c⟩;rw[Array.empty_append]
def Mu(x:Str)(te:TE):TE:=λσ H Q=>te σ H λv H1=>∃y,v=.str y/\x.length+y.length<=sizeLine/\Q (.str (x++y)) H1
theorem JU{e:Expr}{te:TE}{x:Str}{k:Nat}{c p2 pos:Pos}(f:PE X e te)(g:x.length<=sizeLine:=by decide):PE X (.JoinedStr [.Constant (.str x) k c,.FormattedValue e (-1) none p2] pos) (Mu x te):=by
 intro pins s σ H Q I h;refine wpAny_JoinedStr ?_;show wpAny _ _ (eval (.Constant (.str x) k c) X.env) _ _ _;refine Calls.Constant_str ⟨x,_,rfl,?_,?_⟩
 .show(Str.empty++x).length<=sizeLine
  rw[empty_app];exact g
 show wpAny _ _ (eval (.FormattedValue e (-1) none p2) X.env) _ _ _;refine wpAny_FormattedValue_plain (aJ (f pins _ σ H _ (I.tok _) h) λu m ⟨v,H1,d,i,y,j,l,q⟩=>?_);subst j;obtain⟨t,rfl⟩:=i;have a:Str.empty++x=x:=empty_app x;have b:(x++y).length<=sizeLine:=by
  have:(x++y).length=x.length+y.length:=by show(x.cps++y.cps).size=x.cps.size+y.cps.size;exact lI
  rw[this];exact l
 refine wpAny_formatField_str ?_ ?_ (by omega)
 .refine⟨y,t,rfl,?_,?_⟩
  .rw[a];exact b
  .rw[a]
   exact⟨b,.str (x++y),H1,d.tok _,⟨_,rfl⟩,q⟩
 .refine⟨y,_,rfl,?_,?_⟩
  .rw[a];exact b
  .rw[a]
   exact⟨b,.str (x++y),H1,(d.tok _).tok _,⟨_,rfl⟩,q⟩
end
section
variable{prog:Program}{w:World}{A:Around}{E:aF}{s:Shared}
theorem tuple_addW0(l b:Addr)(items a:Array Value)(n f:Nat)(dd c:Option Addr)(i e:Array (Option Value))(j:items.isEmpty=true):
  Meets (Builtin.«tuple.__add__» ⟨[.ref l,.ref b],[]⟩) (λ_ R s=>s.heap.get? l=some {cls:=.type "tuple",dict:=dd,data:=.seq items n,slots:=i}/\s.heap.get? b=some {cls:=.type "tuple",dict:=c,data:=.seq a f,slots:=e}/\R (.ok (.ret (Value.ref b))) {s with heap:=s.heap,toks:=s.toks}):=
 .of_wp λprog w A R s h=>by obtain⟨o,g,d,tk,os⟩:=s;obtain⟨k,m,h⟩:=h;have f1:=AutoSeq1.idx_int;have f2:=AutoSeq1.sub_tuple_tuple;have p:=AutoSeq1.sub_list_list;have f4:=AutoSeq1.sub_tuple_list;have q:=AutoSeq1.sub_list_tuple;wp_walk using rB k,rB m;exact⟨_,rfl,h⟩
end
section
variable{X:Cx}
def KS(K:Frag):R2:=λx y H Q=>∃a b ys,x=.ref a/\y=.ref b/\bf K H a []/\bf K H b ys/\Q (.ref b) H
theorem Js:aV X (binaryOp .Add) (KS X.K):=by
 intro pins s σ H x y v u Q I k l h;obtain⟨a,b,ys,rfl,rfl,m,o,q⟩:=h;cases k;cases l;obtain⟨its,p,r,_⟩:=I.tuple m;obtain⟨c,z,p2,_⟩:=I.tuple o;cases p;obtain⟨⟨cls,dd,data,t⟩,i,hc,n,hd⟩:=id r;obtain⟨⟨j,f,data2,g⟩,d,e,w,hd2⟩:=id p2;simp only at hc hd e hd2;subst hc hd e hd2;exact concat_meets ⟨_,i,rfl⟩ ⟨_,d,rfl⟩ noFill_tuple_add seq_tuple_add slot_tuple_add entry_tuple_add (args_tuple_add_2 _ _)
  (tuple_addW0 a b #[] c.toArray n w dd f t g rfl) ⟨i,d,⟨.ref b,H,I,rfl,q⟩⟩
def Am(K:Frag):R2:=λx y H Q=>∃a b xs ys,x=.ref a/\y=.ref b/\bf K H a xs/\bf K H b ys/\xs.length+ys.length<=sizeLine/\
 (xs=[]->Q (.ref b) H)/\(xs≠[]->ys=[]->Q (.ref a) H)/\(xs≠[]->ys≠[]->∀p,H p=none->Q (.ref p) (upd H p (.tup (xs++ys))))
theorem Jq:aV X (binaryOp .Add) (Am X.K):=by
 intro pins s σ H x y v u Q I d e h;obtain⟨a,b,xs,ys,rfl,rfl,f,g,i,j,k,l⟩:=h;by_cases c:xs=[]
 .subst c
  exact Js pins s σ H _ _ v u Q I d e ⟨a,b,ys,rfl,rfl,f,g,j rfl⟩
 .exact Jr pins s σ H _ _ v u Q I d e ⟨a,b,xs,ys,rfl,rfl,f,g,c,i,k c,l c⟩
end
end L2
namespace DP
theorem IE:typeLookup (.type "list") "keys"=pure none:=by rw[nS,n7];kernel_rfl
theorem IF:typeLookup (.type "tuple") "keys"=pure none:=by rw[nS,n7];kernel_rfl
section
variable{prog:Program}{w:World}{A:Around}{E:aF}{s:Shared}
theorem Jb{a:Addr}{xs:Array Value}{k:Nat}{Q:Option Value->Shared->Prop}(i:s.heap.get? a=some {cls:=.type "list",data:=.seq xs k})(l:A.handled=none)
  (h:∀h' tk,(∀b o,s.heap.get? b=some o->h'.get? b=some o)->Q none {s with heap:=h',toks:=tk}):wpAny (model prog w) A (getAttr? (.ref a) "keys") Q E s:=by
 obtain⟨m,g,d,tk,os⟩:=s;have j:∀c,(⟨m,g,d,c,os⟩:Shared).TypeIs (.ref a) "list":=λ_=>⟨_,i,rfl⟩;have f1:=sub_AttributeError;have n:=vG.lookup;have f4:=vG.bind (.ref a);have p:=am_list_getattr_none;unfold getAttr? getAttrBy? getAttrBy;repeat (any_goals (first|assumption|exact j _|((with_reducible show wpAny _ _ (call (Value.builtin "list.__getattribute__") _ _) _ _ _);refine jX vG (j _) am_entry_list_getattribute (PySem.F.args_list_getattribute_2 _ _) (meets_getattribute_miss_list a xs k #[] "keys" _ IE (by decide) (by decide)) ⟨i,l,λh' c e f=>?_⟩)|wp_step))
 obtain⟨t',q,r⟩:=f.there;show wpAny _ _ (getattributeRaised _ _ _ _ _ _ _) _ _ _;unfold getattributeRaised;repeat (any_goals (first|assumption|wp_step))
 exact h _ _ f.keeps
theorem Jc{a:Addr}{xs:Array Value}{k:Nat}{Q:Option Value->Shared->Prop}(i:s.heap.get? a=some {cls:=.type "tuple",data:=.seq xs k})(l:A.handled=none)
  (h:∀h' tk,(∀b o,s.heap.get? b=some o->h'.get? b=some o)->Q none {s with heap:=h',toks:=tk}):wpAny (model prog w) A (getAttr? (.ref a) "keys") Q E s:=by
 obtain⟨m,g,d,tk,os⟩:=s;have j:∀c,(⟨m,g,d,c,os⟩:Shared).TypeIs (.ref a) "tuple":=λ_=>⟨_,i,rfl⟩;have f1:=sub_AttributeError;have n:=vM.lookup;have f4:=vM.bind (.ref a);have p:=am_tuple_getattr_none;unfold getAttr? getAttrBy? getAttrBy;repeat (any_goals (first|assumption|exact j _|((with_reducible show wpAny _ _ (call (Value.builtin "tuple.__getattribute__") _ _) _ _ _);refine jX vM (j _) am_entry_tuple_getattribute (PySem.F.args_tuple_getattribute_2 _ _) (meets_getattribute_miss_tuple a xs k #[] "keys" _ IF (by decide) (by decide)) ⟨i,l,λh' c e f=>?_⟩)|wp_step))
 obtain⟨t',q,r⟩:=f.there;show wpAny _ _ (getattributeRaised _ _ _ _ _ _ _) _ _ _;unfold getattributeRaised;repeat (any_goals (first|assumption|wp_step))
 exact h _ _ f.keeps
end
theorem yC:entryFor table "dict.update.loop"=some Builtin.«dict.update.loop»:=entryFor_of_tree (by kernel_rfl)
theorem nk:plainId "dict.update.loop"=true:=by decide+kernel
section
variable{prog:Program}{w:World}{A:Around}{R:Result->Shared->Prop}{I:Addr}{fp wr:List Addr}{n:Nat}{P:Nat->Value->Prop}{St:Nat->Heap->Prop}
theorem loop(W:Walks prog w A.in1 I fp wr n P St)(D:Addr)(p:D∉fp)(h₀:Heap)(key:Nat->L2.Key)(C q:Nat->Value)
  (u:∀i v,i<n->P i v->∃t,v=.ref t/\t≠D/\t∉wr/\IsTup h₀ t #[C i,q i])(x:∀i,i<n->(L2.ee prog w).is (key i) (C i)=true)(hn:n<=sizeLine):
  ∀(k i:Nat) (s:Shared) (kvs:List (L2.Key×Value)),n - i=k->i<=n->St i s.heap->s.heap.DictOf (L2.ee prog w) D kvs->kvs.length<=i->(∀b o,b≠D->b∉wr->h₀.get? b=some o->s.heap.get? b=some o)->
   (∀h' tk,h'.DictOf (L2.ee prog w) D (((range n).drop i).foldl (λacc j=>stored acc (key j) (q j)) kvs)->(∀b o,b≠D->b∉wr->s.heap.get? b=some o->h'.get? b=some o)->R (.ok (.ret .none)) {s with heap:=h',toks:=tk})->
   codeAny (model prog w) A (.builtin "dict.update.loop" ⟨[.ref D,.ref I,rawInt (i:Nat),.none],[]⟩) R s:=by
 have y:D∉wr:=λh=>p (W.sub _ h);intro k;induction k with
 |zero=>
  intro i s kvs hk hi g F Y G H;have J:i=n:=by omega
  subst J;refine gw yC ?_;rw[gY nk _];show wpAny _ A.in1 (pyNext (.ref I)>>=_) _ _ s;refine ah (W.done s _ _ g λh' tk l=>?_);show wpAny _ A.in1 (Builtin.Dict.addKeywords D []>>=_) _ _ _;refine ah (aB (aB (H h' tk ?_ λb o d a e=>l b o a e)));rw[jm (by simp),foldl_nil];obtain⟨o,es,ep,K,r⟩:=F;exact⟨o,es,ep,l D o y K,r⟩
 |succ k Z=>
  intro i s kvs hk hi g F Y G H;have c:i<n:=by omega
  refine gw yC ?_;rw[gY nk _];show wpAny _ A.in1 (pyNext (.ref I)>>=_) _ _ s;refine ah (W.item i s _ _ c g λv h1 tk hP B l=>?_);obtain⟨t,rfl,tD,tw,ht⟩:=u i v c hP;obtain⟨E,L,M,nt,N⟩:=ht;have f:h1.get? t=some E:=l t E tw (G t E tD tw L);refine ah (fY ?_);refine ah (nZ ?_);unfold Builtin.Dict.pairItems;refine ah (lN (T:="tuple") ⟨E,f,M⟩ ?_);rw[ao (by decide)];refine ah (lJ f N (aB ?_));show wpAny _ _ (holding [C i,q i] (dictSet D (C i) (q i))) _ _ _;have O:h1.DictOf (L2.ee prog w) D kvs:=by
   obtain⟨o,es,ep,K,r⟩:=F;exact⟨o,es,ep,l D o y K,r⟩
  refine fY (wpAny_dictSet_pairs (s:={s with heap:=h1,toks:=tk}) (x i c) O (λh2 Q m=>?_) (by omega));have S:St (i+1) h2:=W.frame _ _ _ B λb d o e=>(m.2 b λz=>p (z▸d)).trans e;have e1:((i:Nat):Int)+1=((i+1:Nat):Int):=by omega
  refine aB ⟨gq nk _,?_⟩;show codeAny _ _ (.builtin "dict.update.loop" ⟨[.ref D,.ref I,rawInt (((i:Nat):Int)+1),.none],[]⟩) _ _;rw[e1];refine Z (i+1) _ _ (by omega) c S Q ?_ (λb o d a e=>(m.2 b d).trans (l b o a (G b o d a e))) λh' U V X=>?_
  .have:=stored_length_le kvs (key i) (q i)
   omega
  .refine H h' U ?_ λb o d a e=>X b o d a ((m.2 b d).trans (l b o a e))
   have e2:(range n).drop i=i::(range n).drop (i+1):=by
    rw[jY (by simpa using c)];simp
   rw[e2,foldl_cons];exact V
end
end DP
namespace L2
def putAll(ps:List (Key×V)):List (Key×V):=ps.foldl (λacc p=>putK acc p.1 p.2) []
theorem KN(ps acc:List (Key×V)):(ps.foldl (λacc p=>putK acc p.1 p.2) acc).length<=acc.length+ps.length:=by
 induction ps generalizing acc with
 |nil=>simp
 |cons p r a=>
  rw[foldl_cons,dZ];refine cM (a _) ?_;have:(putK acc p.1 p.2).length<=acc.length+1:=by
   unfold putK;split
   .rw[bB];omega
   .rw[b_];simp
  omega
theorem HW{ps:List (Key×V)}{n:Nat}{key:Nat->Key}{a:Nat->Value}(hn:n=ps.length)(h:∀i p,ps[i]?=some p->key i=p.1/\RelV p.2 (a i)):KV (putAll ps) ((range n).foldl (λacc j=>stored acc (key j) (a j)) []):=by
 subst hn;unfold putAll;have gen:∀(m:Nat),m<=ps.length->KV ((ps.take m).foldl (λacc p=>putK acc p.1 p.2) []) ((range m).foldl (λacc j=>stored acc (key j) (a j)) []):=λm=>by
  induction m with
  |zero=>intro _;simp;exact .nil
  |succ m b=>
   intro c;have e:ps[m]?=some (ps[m]'(by omega)):=bS (by omega);obtain⟨h1,h2⟩:=h m _ e;rw[List.take_add_one,e,List.range_succ,List.foldl_append,List.foldl_append];simp only[Option.toList_some,foldl_cons,foldl_nil];rw[h1];exact KV.put (b (by omega)) _ h2
 have:=gen ps.length (aI _);rwa [List.take_length] at this
section
variable{X:Cx}
def Pairs(K:Frag)(H:Hp)(ts:List V)(ps:List (Key×V)):Prop:=ts.length=ps.length/\∀(i:Nat) (x:V) (p:Key×V),ts[i]?=some x->ps[i]?=some p->∃t,x=.ref t/\bf K H t [kV p.1,p.2]
theorem sE(hc:X.calm=true):cV X (.type "dict") (λxs H Q=>∃(p:Addr) (D:List V) (ps:List (Key×V)),xs=[.ref p]/\(H p=some (.lst D)\/H p=some (.tup D))/\Pairs X.K H D ps/\ps.length<=1000/\∀d,H d=none->Q (.ref d) (upd H d (.dK (putAll ps)))):=by
 intro pins s σ H xs us Q I r h;obtain⟨p,D,ps,rfl,hp,hP,hl,q⟩:=h;obtain⟨u,rfl,ru⟩:=vals1 r;cases ru;have Z:=I.ok.hd hc;obtain⟨its,hv,E⟩:∃its:List Value,Vals D its/\((∃n,s.heap.get? p=some {cls:=.type "list",data:=.seq its.toArray n})\/∃n,s.heap.get? p=some {cls:=.type "tuple",data:=.seq its.toArray n}):=by
  rcases hp with hp|hp
  .obtain⟨_,its,n,y,e⟩:=(show bT X.prog X.w H s.heap p (.lst D) from I.hok p _ hp)
   exact⟨its,y,.inl ⟨n,e⟩⟩
  .obtain⟨its,n,y,e,_⟩:=I.M1 hp
   exact⟨its,y,.inr ⟨n,e⟩⟩
 have l:its.length=ps.length:=by rw[<-hv.length];exact hP.1
 have Kf:p<s.heap.objs.size:=by rcases E with⟨_,e⟩|⟨_,e⟩<;>exact aQ e
 have pair:∀i,i<ps.length->∃t k v,its[i]?=some (.ref t)/\IsTup s.heap t #[k,v]/\∃p,ps[i]?=some p/\RelV (kV p.1) k/\RelV p.2 v:=λi hi=>by
  have z:ps[i]?=some (ps[i]'hi):=bS hi;have B:D[i]?=some (D[i]'(by rw[hP.1];exact hi)):=bS _;obtain⟨t,ex,hq⟩:=hP.2 i _ _ B z;obtain⟨u,hu,ru⟩:=hv.get B;rw[ex] at ru;cases ru;obtain⟨its2,r2,p2,_⟩:=I.tuple hq;obtain⟨k,v,rfl,N,y⟩:=vals2 r2;exact⟨t,k,v,hu,p2,_,z,N,y⟩
 let kk:Nat->Value:=λi=>match its[i]? with|some (.ref t)=>(match s.heap.get? t with|some o=>(match o.data with|.seq a _=>a.getD 0 .none|_=>.none)|none=>.none)|_=>.none
 let O:Nat->Value:=λi=>match its[i]? with|some (.ref t)=>(match s.heap.get? t with|some o=>(match o.data with|.seq a _=>a.getD 1 .none|_=>.none)|none=>.none)|_=>.none
 let key:Nat->Key:=λi=>((ps[i]?).map (·.1)).getD (.inl 0);have g:∀i,i<ps.length->∃t p,its[i]?=some (.ref t)/\IsTup s.heap t #[kk i,O i]/\ps[i]?=some p/\key i=p.1/\RelV (kV p.1) (kk i)/\RelV p.2 (O i):=λi hi=>by
  obtain⟨t,k,v,z,L,pp,B,N,y⟩:=pair i hi;obtain⟨o,G,hcl,n,hd⟩:=id L;have P:kk i=k:=by simp only[kk,z,G,hd];rfl
  have ev:O i=v:=by simp only[O,z,G,hd];rfl
  have ey:key i=pp.1:=by simp only[key,B];rfl
  rw[P,ev,ey];exact⟨t,pp,z,L,B,rfl,N,y⟩
 have hsz:ps.length<=sizeLine:=cM hl (by decide);refine callType_codes (Q₁:=λobj J=>obj=.ref s.heap.objs.size/\J={s with heap:=s.heap.push {cls:=.type "dict",data:=.dict #[]}}) PySem.F.kt_called_dict (PySem.F.kt_typeCall_dict_1 _) PySem.F.entry_dict_init (kt_code_dict_new _ ⟨rfl,rfl⟩) ?_;rintro obj J ⟨rfl,rfl⟩;have c:(s.heap.push {cls:=.type "dict",data:=.dict #[]}).DictOf (ee X.prog X.w) s.heap.objs.size []:=Heap.DictOf.new s.heap;refine⟨c.typeIs,PySem.F.args_dict_init_2 _ _,?_⟩;unfold Builtin.«dict.__init__»;refine ah ?_;unfold Builtin.Dict.selfAndRest;refine ah (wpAny_notOrdered_dict c.typeIs ?_);show wpAny _ _ (pure (s.heap.objs.size,[Value.ref p])) _ _ _;refine aB ?_;show wpAny _ _ (Builtin.Dict.updateFrom "dict.__init__" s.heap.objs.size (.ref p) [] .none) _ _ _;unfold Builtin.Dict.updateFrom;have k0:∀b o,s.heap.get? b=some o->(s.heap.push {cls:=.type "dict",data:=.dict #[]}).get? b=some o:=λb o e=>bw _ e;have pD:p≠s.heap.objs.size:=bq Kf;have go:∀(h1:Heap) (tk:Nat) (R:Addr) (fp:List Addr) (St:Nat->Heap->Prop),(∀b o,(s.heap.push {cls:=.type "dict",data:=.dict #[]}).get? b=some o->h1.get? b=some o)->s.heap.objs.size<R->
   Walks X.prog X.w X.A.in1.in1 R fp [R] its.length (λi v=>its.toArray[i]?=some v) St->St 0 h1->s.heap.objs.size∉fp->
   codeAny (model X.prog X.w) X.A.in1 (.builtin "dict.update.loop" ⟨[.ref s.heap.objs.size,.ref R,rawInt 0,.none],[]⟩) (wants (λr S=>r=.none/\EP X pins σ Q (.ref s.heap.objs.size) S) X.xe) {s with heap:=h1,toks:=tk}:=by
  intro h1 tk R fp St k1 hI W Mb hDf;have GS:h1.DictOf (ee X.prog X.w) s.heap.objs.size []:=by
   obtain⟨o,es,ep,G,r⟩:=c;exact⟨o,es,ep,k1 _ o G,r⟩
  refine DP.loop W s.heap.objs.size hDf s.heap key kk O (λi v hi hv'=>?_) (λi hi=>?_) (by rw[l];exact hsz) its.length 0 _ [] rfl (c5 _) Mb GS (c5 _) (λb o _ _ e=>k1 b o (k0 b o e)) λh2 MZ U k2=>?_
  .obtain⟨t,pp,z,L,_⟩:=g i (by rw[<-l];exact hi)
   have e:its[i]?=some v:=by simpa using hv'
   rw[z] at e;cases e;have Y:t<s.heap.objs.size:=L.lt;exact⟨t,rfl,bq Y,by simp only[bV];exact bq (lt_trans Y hI),L⟩
  .obtain⟨t,pp,z,L,B,P,N,y⟩:=g i (by rw[<-l];exact hi)
   rw[P];exact pN N
  .have hn:H s.heap.objs.size=none:=I.hok.fresh (aI _)
   have HV:∀b o,s.heap.get? b=some o->h2.get? b=some o:=λb o e=>by
    have hb:b<s.heap.objs.size:=aQ e;exact k2 b o (bq hb) (by simp only[bV];exact bq (lt_trans hb hI)) (k1 b o (k0 b o e))
   rw[lQ,l] at U;have hkv:KV (putAll ps) ((range ps.length).foldl (λacc j=>stored acc (key j) (O j)) []):=HW rfl λi pp e=>by
    obtain⟨t,pp',z,L,B,P,N,y⟩:=g i (cT.mp e).1;rw[e] at B;cases B;exact⟨P,y⟩
   have hns:(s.heap.objs.size==sysModules)=false:=beq_false_of_ne (je I.big);refine⟨rfl,.ref s.heap.objs.size,_,I.laid (t':=MZ) (o:=.dK (putAll ps)) HV (aI _) ⟨?_,hns,_,hkv,U⟩,rfl,q _ hn⟩;have:=KN ps [];unfold putAll;simp only[length_nil,Nat.zero_add] at this;omega
 rcases E with⟨n,e⟩|⟨n,e⟩
 .have C:=k0 _ _ e
  refine ah (lN (T:="list") ⟨_,C,rfl⟩ ?_);rw[ao (by decide)];refine ah (DP.Jb (s:={s with heap:=s.heap.push {cls:=.type "dict",data:=.dict #[]}}) C Z λh1 M k1=>?_);rw[ao (show(none:Option Value).isNone=true from rfl)];refine ah (gS ?_);have m:h1.IsList p its.toArray:=⟨_,k1 _ _ C,rfl,n,rfl⟩;have x:p<h1.objs.size:=aQ (k1 _ _ C);have f:s.heap.objs.size<h1.objs.size:=by obtain⟨o,_,_,G,_⟩:=c;exact aQ (k1 _ _ G)
  refine ah (nW (s:={s with heap:=h1,toks:=M}) m ?_);have W:=Walks.list (prog:=X.prog) (w:=X.w) (A:=X.A.in1.in1) Z h1.objs.size p (bq x) its.toArray;rw[bY] at W;refine aB ⟨gq DP.nk _,go _ _ _ _ _ (λb o q=>bw _ (k1 b o q)) f W ⟨⟨_,bK _ rfl,rfl,rfl⟩,m.push _⟩ ?_⟩;simp only[aW,eW,eY,not_or];exact⟨bq f,Ne.symm pD⟩
 .have C:=k0 _ _ e
  refine ah (lN (T:="tuple") ⟨_,C,rfl⟩ ?_);rw[ao (by decide)];refine ah (DP.Jc (s:={s with heap:=s.heap.push {cls:=.type "dict",data:=.dict #[]}}) C Z λh1 M k1=>?_);rw[ao (show(none:Option Value).isNone=true from rfl)];refine ah (gS ?_);have m:h1.IsTuple p its.toArray:=⟨_,k1 _ _ C,rfl,n,rfl⟩;have x:p<h1.objs.size:=aQ (k1 _ _ C);have f:s.heap.objs.size<h1.objs.size:=by obtain⟨o,_,_,G,_⟩:=c;exact aQ (k1 _ _ G)
  refine ah (wpAny_pyIter_tuple (s:={s with heap:=h1,toks:=M}) m ?_);have W:=Walks.tuple (prog:=X.prog) (w:=X.w) (A:=X.A.in1.in1) Z h1.objs.size p (bq x) its.toArray;rw[bY] at W;refine aB ⟨gq DP.nk _,go _ _ _ _ _ (λb o q=>bw _ (k1 b o q)) f W ⟨⟨_,bK _ rfl,rfl,rfl⟩,m.push _⟩ ?_⟩;simp only[aW,eW,eY,not_or];exact⟨bq f,Ne.symm pD⟩
end
section
variable{X:Cx}
theorem Inv.uo{pins:aO}{σ:St}{H H':Hp}{s:Shared}{h':Heap}{t':Nat}(I:Inv X pins σ H s)(kp:∀b o,s.heap.get? b=some o->h'.get? b=some o)(d:kc H H')
  (a:∀b o,H' b=some o->H b=some o\/((∀u,s.heap.get? b≠some u)/\bT X.prog X.w H' h' b o)):Inv X pins σ H' {s with heap:=h',toks:=t'}:=by
 refine I.un (h':=h') (t':=t') ⟨λb o q _ _ _=>kp b o q,λb o q _ _ _=>⟨o.slots,kp b o q⟩,λb o q n _=>?_,λb o q _=>⟨o,kp b o q⟩,λb xs q=>d _ _ q,λb o u q=>d _ _ q,λb ps q=>⟨#[],by rw[d _ _ q];simp⟩⟩ λb o q=>?_
 .cases e:H' b with
  |none=>rfl
  |some u=>
   rcases a b u e with z|⟨z,_⟩
   .rw[n] at z;cases z
   .exact absurd q (z _)
 .rcases a b o q with z|⟨_,z⟩
  .exact(I.hok b o z).stay (λc v _ r=>kp c v r) (λc r=>d _ _ r) λc xs r=>d _ _ r
  .exact z
end
end L2
namespace DP
open L2
inductive D where
 |aM|bl (b:Bool)|int (i:Int)|str (x:Str)|tup (xs:List D)|ref (r:Nat)|fl (xs:List Int)|exc (c:Str)
inductive C where
 |lst (xs:List D)|dct (kvs:List (Key×D))|iB (o:Obj) (kvs:List (Key×D))|ins (cl:Str) (fs:List (Str×D))
abbrev Ar:=List C
abbrev Io:=Nat->Addr
section
variable(mg:au)
mutual
def RV(ι:Io)(n:Nat)(H:Hp):D->V->Prop
 |.aM,v=>v=.aM
 |.bl b,v=>v=.bl b
 |.int i,v=>v=.int i
 |.str x,v=>v=.str x
 |.tup ds,v=>∃a xs,v=.ref a/\H a=some (.tup xs)/\aq ι n H ds xs
 |.ref r,v=>r<n/\v=.ref (ι r)
 |.fl ns,v=>∃a o,v=.ref a/\H a=some (.b5 o (.lst (ns.map V.int)))
 |.exc c,v=>∃a C,v=.ref a/\mg c=some (.ref C)/\H a=some (FD a C)
def aq(ι:Io)(n:Nat)(H:Hp):List D->List V->Prop
 |[],xs=>xs=[]
 |d::ds,xs=>∃x r,xs=x::r/\RV ι n H d x/\aq ι n H ds r
end
def RK(ι:Io)(n:Nat)(H:Hp):List (Key×D)->List (Key×V)->Prop
 |[],xs=>xs=[]
 |p::ds,xs=>∃x r,xs=(p.1,x)::r/\RV mg ι n H p.2 x/\RK ι n H ds r
def RF(ι:Io)(n:Nat)(H:Hp):List (Str×D)->List (Str×V)->Prop
 |[],xs=>xs=[]
 |p::ds,xs=>∃x r,xs=(p.1,x)::r/\RV mg ι n H p.2 x/\RF ι n H ds r
def CO(ι:Io)(n:Nat)(H:Hp)(a:Addr):C->Prop
 |.lst ds=>∃xs,H a=some (.lst xs)/\aq mg ι n H ds xs
 |.dct kvs=>∃xs,H a=some (.dK xs)/\RK mg ι n H kvs xs
 |.iB o kvs=>∃xs,H a=some (.b5 o (.dK xs))/\RK mg ι n H kvs xs
 |.ins cl fs=>∃Cc dx xs,mg cl=some (.ref Cc)/\H a=some (.ins Cc dx xs)/\RF mg ι n H fs xs
structure RA(ι:Io)(H:Hp)(A:Ar):Prop where
 fz:∀r c,A[r]? =some c->CO mg ι A.length H (ι r) c
 inj:∀r q,r<A.length->q<A.length->ι r=ι q->r=q
end
def gm:HO->Bool
 |.lst _|.dK _|.b5 _ (.dK _)|.ins _ _ _=>true
 |_=>false
structure Ext(A:Ar)(ι:Io)(H:Hp)(A':Ar)(ι':Io)(H':Hp):Prop where
 len:A.length<=A'.length
 ag:∀r,r<A.length->ι' r=ι r
 im:∀r,r<A.length->∃o,H (ι r)=some o/\gm o=true
 mo:∀b o,H b=some o->(∀r,r<A.length->ι r≠b)->H' b=some o
 nw:∀r,A.length<=r->r<A'.length->H (ι' r)=none
 al:∀b o,H b=some o->∃o',H' b=some o'
theorem Ext.fix{A A':Ar}{ι ι':Io}{H H':Hp}(e:Ext A ι H A' ι' H'){b:Addr}{o:HO}(a:gm o=false)(h:H b=some o):H' b=some o:=e.mo b o h λr c z=>by
 obtain⟨u,h1,h2⟩:=e.im r c;rw[z,h] at h1;cases h1;rw[a] at h2;cases h2
theorem Ext.trans{A g i:Ar}{ι e d:Io}{H H1 H2:Hp}(a:Ext A ι H g e H1)(b:Ext g e H1 i d H2):Ext A ι H i d H2 where
 len:=cM a.len b.len
 ag:=λr h=>(b.ag r (cB h a.len)).trans (a.ag r h)
 im:=a.im
 mo:=λc o h hn=>b.mo c o (a.mo c o h hn) λr k z=>by
  by_cases f:r<A.length
  .rw[a.ag r f] at z;exact hn r f z
  .have:=a.nw r (by omega) k
   rw[z,h] at this;cases this
 nw:=λr h1 h2=>by
  by_cases f:r<g.length
  .rw[b.ag r f];exact a.nw r h1 f
  .have j:=b.nw r (by omega) h2
   cases q:H (d r) with
   |none=>rfl
   |some o=>
    obtain⟨o',h'⟩:=a.al _ o q
    rw[h'] at j;cases j
 al:=λc o h=>by
  obtain⟨l,h1⟩:=a.al c o h
  exact b.al c l h1
section
variable{mg:au}{A A':Ar}{ι ι':Io}{H H':Hp}
section
variable{n n':Nat}
mutual
theorem RV.ag(hn:n<=n')(e:∀r,r<n->ι' r=ι r)(i:∀b o,gm o=false->H b=some o->H' b=some o):∀(d:D) (v:V),RV mg ι n H d v->RV mg ι' n' H' d v
 |.aM,_,h=>h
 |.bl _,_,h=>h
 |.int _,_,h=>h
 |.str _,_,h=>h
 |.tup ds,v,h=>by
  obtain⟨a,xs,f,g,j⟩:=h;exact⟨a,xs,f,i _ _ rfl g,aq.ag hn e i ds xs j⟩
 |.ref r,v,h=>⟨cB h.1 hn,by rw[e r h.1];exact h.2⟩
 |.fl ns,v,h=>by
  obtain⟨a,o,f,g⟩:=h;exact⟨a,o,f,i _ _ rfl g⟩
 |.exc c,v,h=>by
  obtain⟨a,C,f,g,j⟩:=h;exact⟨a,C,f,g,i _ _ rfl j⟩
theorem aq.ag(hn:n<=n')(a:∀r,r<n->ι' r=ι r)(e:∀b o,gm o=false->H b=some o->H' b=some o):∀(ds:List D) (c:List V),aq mg ι n H ds c->aq mg ι' n' H' ds c
 |[],_,h=>h
 |d::ds,c,h=>by
  obtain⟨x,r,f,g,i⟩:=h;exact⟨x,r,f,RV.ag hn a e d x g,aq.ag hn a e ds r i⟩
end
theorem RK.ag(hn:n<=n')(a:∀r,r<n->ι' r=ι r)(e:∀b o,gm o=false->H b=some o->H' b=some o):∀(ds:List (Key×D)) (c:List (Key×V)),RK mg ι n H ds c->RK mg ι' n' H' ds c
 |[],_,h=>h
 |d::ds,c,h=>by
  obtain⟨x,r,f,g,i⟩:=h;exact⟨x,r,f,RV.ag hn a e _ x g,RK.ag hn a e ds r i⟩
theorem RF.ag(hn:n<=n')(a:∀r,r<n->ι' r=ι r)(e:∀b o,gm o=false->H b=some o->H' b=some o):∀(ds:List (Str×D)) (c:List (Str×V)),RF mg ι n H ds c->RF mg ι' n' H' ds c
 |[],_,h=>h
 |d::ds,c,h=>by
  obtain⟨x,r,f,g,i⟩:=h;exact⟨x,r,f,RV.ag hn a e _ x g,RF.ag hn a e ds r i⟩
theorem CO.ag{a:Addr}(hn:n<=n')(d:∀r,r<n->ι' r=ι r)(g:∀b o,gm o=false->H b=some o->H' b=some o)(i:∀o,H a=some o->H' a=some o):∀(c:C),CO mg ι n H a c->CO mg ι' n' H' a c
 |.lst ds,h=>by
  obtain⟨xs,e,f⟩:=h;exact⟨xs,i _ e,aq.ag hn d g ds xs f⟩
 |.dct ds,h=>by
  obtain⟨xs,e,f⟩:=h;exact⟨xs,i _ e,RK.ag hn d g ds xs f⟩
 |.iB o ds,h=>by
  obtain⟨xs,e,f⟩:=h;exact⟨xs,i _ e,RK.ag hn d g ds xs f⟩
 |.ins cl ds,h=>by
  obtain⟨j,dx,xs,k,e,f⟩:=h;exact⟨j,dx,xs,k,i _ e,RF.ag hn d g ds xs f⟩
end
theorem RV.ext(e:Ext A ι H A' ι' H')(d:D)(v:V)(h:RV mg ι A.length H d v):RV mg ι' A'.length H' d v:=RV.ag e.len e.ag (λ_ _ m h=>e.fix m h) d v h
theorem aq.ext(e:Ext A ι H A' ι' H')(d:List D)(v:List V)(h:aq mg ι A.length H d v):aq mg ι' A'.length H' d v:=aq.ag e.len e.ag (λ_ _ m h=>e.fix m h) d v h
theorem RK.ext(e:Ext A ι H A' ι' H')(d:List (Key×D))(v:List (Key×V))(h:RK mg ι A.length H d v):RK mg ι' A'.length H' d v:=RK.ag e.len e.ag (λ_ _ m h=>e.fix m h) d v h
theorem CO.ext{a:Addr}(e:Ext A ι H A' ι' H')(b:∀o,H a=some o->H' a=some o)(c:C)(h:CO mg ι A.length H a c):CO mg ι' A'.length H' a c:=CO.ag (a:=a) (H:=H) (H':=H') e.len e.ag (λ_ _ m h=>e.fix m h) b c h
theorem aq.length:∀{ds:List D} {a:List V} {n:Nat},aq mg ι n H ds a->ds.length=a.length
 |[],a,_,h=>by have h':a=[]:=h;rw[h'];rfl
 |d::ds,a,n,h=>by
  obtain⟨x,r,rfl,_,b⟩:=h;simp[aq.length b]
theorem aq.get:∀{ds:List D} {a:List V} {n i:Nat} {d:D},aq mg ι n H ds a->ds[i]?=some d->∃v,a[i]?=some v/\RV mg ι n H d v
 |[],_,_,_,_,_,e=>by simp at e
 |d::ds,a,n,0,d',h,e=>by
  obtain⟨x,r,rfl,b,_⟩:=h;simp at e;subst e;exact⟨x,rfl,b⟩
 |d::ds,a,n,i+1,d',h,e=>by
  obtain⟨x,r,rfl,_,c⟩:=h;obtain⟨v,h1,h2⟩:=aq.get (i:=i) c (by simpa using e);exact⟨v,by simpa using h1,h2⟩
theorem aq.app:∀{ds es:List D} {a ws:List V} {n:Nat},aq mg ι n H ds a->aq mg ι n H es ws->aq mg ι n H (ds++es) (a++ws)
 |[],_,a,_,_,h,q=>by have h':a=[]:=h;rw[h'];exact q
 |d::ds,es,a,ws,n,h,q=>by
  obtain⟨x,r,rfl,b,c⟩:=h;exact⟨x,r++ws,rfl,b,aq.app c q⟩
theorem aq.take:∀{ds:List D} {a:List V} {n:Nat} (k:Nat),aq mg ι n H ds a->aq mg ι n H (ds.take k) (a.take k)
 |ds,a,n,0,h=>by simp[aq]
 |[],a,n,k+1,h=>by have h':a=[]:=h;rw[h'];simp[aq]
 |d::ds,a,n,k+1,h=>by
  obtain⟨x,r,rfl,b,c⟩:=h;exact⟨x,r.take k,rfl,b,aq.take k c⟩
theorem aq.drop:∀{ds:List D} {a:List V} {n:Nat} (k:Nat),aq mg ι n H ds a->aq mg ι n H (ds.drop k) (a.drop k)
 |ds,a,n,0,h=>by simpa using h
 |[],a,n,k+1,h=>by have h':a=[]:=h;rw[h'];simp[aq]
 |d::ds,a,n,k+1,h=>by
  obtain⟨x,r,rfl,c,b⟩:=h;exact aq.drop k b
theorem RA.im(R:RA mg ι H A):∀r,r<A.length->∃o,H (ι r)=some o/\gm o=true:=λr h=>by
 obtain⟨c',b⟩:∃c',A[r]?=some c':=⟨A[r],by rw[bS h]⟩;have:=R.fz r c' b;cases c' with
 |lst ds=>obtain⟨xs,a,_⟩:=this;exact⟨_,a,rfl⟩
 |dct ds=>obtain⟨xs,a,_⟩:=this;exact⟨_,a,rfl⟩
 |iB o ds=>obtain⟨xs,a,_⟩:=this;exact⟨_,a,rfl⟩
 |ins cl ds=>obtain⟨c,dx,xs,_,a,_⟩:=this;exact⟨_,a,rfl⟩
theorem RA.refl(R:RA mg ι H A):Ext A ι H A ι H:=⟨aI _,λ_ _=>rfl,R.im,λ_ _ h _=>h,λr h1 h2=>absurd h2 (by omega),λ_ o h=>⟨o,h⟩⟩
theorem RA.yK(R:RA mg ι H A){p:Addr}{o:HO}(a:H p=none):Ext A ι H A ι (upd H p o):=
 ⟨aI _,λ_ _=>rfl,R.im,λb u h _=>by rw[bA (dJ h a)];exact h,λr h1 h2=>absurd h2 (by omega),λb u h=>⟨u,by rw[bA (dJ h a)];exact h⟩⟩
theorem RA.tF(R:RA mg ι H A){p:Addr}{o:HO}{c:C}(a:H p=none):Ext A ι H (A++[c]) (λr=>if r=A.length then p else ι r) (upd H p o):=
 ⟨by simp,λr h=>by
  show(if r=A.length then p else ι r)=ι r;rw[av (by omega)],R.im,λb u h _=>by rw[bA (dJ h a)];exact h,λr h1 h2=>by
  have e:r=A.length:=by simp at h2;omega
  show H (if r=A.length then p else ι r)=none;rw[ao e];exact a,λb u h=>⟨u,by rw[bA (dJ h a)];exact h⟩⟩
theorem RA.yL(R:RA mg ι H A){r:Nat}{o:HO}{c:C}(d:r<A.length):Ext A ι H (A.set r c) ι (upd H (ι r) o):=
 ⟨by simp,λ_ _=>rfl,R.im,λb u h hn=>by rw[bA (λe=>hn r d e.symm)];exact h,λq h1 h2=>absurd h2 (by simp;omega),λb u h=>by
  by_cases a:b=ι r
  .subst a;exact⟨o,fX⟩
  .exact⟨u,by rw[bA a];exact h⟩⟩
theorem RA.fix(R:RA mg ι H A)(e:Ext A ι H A ι H')(k:∀b o,H b=some o->H' b=some o):RA mg ι H' A:=⟨λr c h=>CO.ext e (λo q=>k _ o q) c (R.fz r c h),R.inj⟩
theorem RA.push{p:Addr}{o:HO}{c:C}(R:RA mg ι H A)(e:H p=none)(hc:CO mg (λr=>if r=A.length then p else ι r) (A.length+1) (upd H p o) p c):
  RA mg (λr=>if r=A.length then p else ι r) (upd H p o) (A++[c])/\Ext A ι H (A++[c]) (λr=>if r=A.length then p else ι r) (upd H p o):=by
 have E:Ext A ι H (A++[c]) (λr=>if r=A.length then p else ι r) (upd H p o):=R.tF e;have tr:∀r,r<A.length->∃u,H (ι r)=some u:=λr h=>by
  obtain⟨c',f⟩:∃c',A[r]?=some c':=⟨A[r],by rw[bS h]⟩;have:=R.fz r c' f;cases c' with
  |lst ds=>obtain⟨xs,b,_⟩:=this;exact⟨_,b⟩
  |dct ds=>obtain⟨xs,b,_⟩:=this;exact⟨_,b⟩
  |iB o ds=>obtain⟨xs,b,_⟩:=this;exact⟨_,b⟩
  |ins cl ds=>obtain⟨k,dx,xs,_,b,_⟩:=this;exact⟨_,b⟩
 refine⟨⟨λr c' h=>?_,λr q g i h=>?_⟩,E⟩
 .by_cases g:r<A.length
  .rw[ic g] at h
   have:=CO.ext E (a:=ι r) (λo' q=>by rw[bA (dJ q e)];exact q) c' (R.fz r c' h);show CO mg _ _ _ (if r=A.length then p else ι r) c';rw[av (by omega)];exact this
  .have j:r=A.length:=by
    have:=(cT.mp h).1;simp at this;omega
   subst j;simp at h;subst h;show CO mg _ _ _ (if A.length=A.length then p else ι A.length) c;rw[ao rfl];simpa using hc
 .simp at g i
  have h':(if r=A.length then p else ι r)=(if q=A.length then p else ι q):=h;by_cases h1:r=A.length
  .by_cases h2:q=A.length
   .rw[h1,h2]
   .rw[ao h1,av h2] at h'
    obtain⟨u,d⟩:=tr q (by omega);rw[<-h',e] at d;cases d
  .by_cases h2:q=A.length
   .rw[av h1,ao h2] at h'
    obtain⟨u,d⟩:=tr r (by omega);rw[h',e] at d;cases d
   .rw[av h1,av h2] at h'
    exact R.inj r q (by omega) (by omega) h'
theorem RA.put{r:Nat}{u o:HO}{c c':C}(R:RA mg ι H A)(i:A[r]?=some c)(m:H (ι r)=some u)(n:gm u=true)(hc:CO mg ι A.length (upd H (ι r) o) (ι r) c'):
  RA mg ι (upd H (ι r) o) (A.set r c')/\Ext A ι H (A.set r c') ι (upd H (ι r) o):=by
 have f:=(cT.mp i).1;have E:Ext A ι H (A.set r c') ι (upd H (ι r) o):=R.yL f;refine⟨⟨λq d h=>?_,λa b j k=>R.inj a b (by simpa using j) (by simpa using k)⟩,E⟩;by_cases g:q=r
 .subst g
  rw[n_ f] at h;cases h;simpa using hc
 .rw[n9 (Ne.symm g)] at h
  have l:=(cT.mp h).1;have:=CO.ext E (a:=ι q) (λo' z=>by rw[bA (λe=>g (R.inj q r l f e))];exact z) d (R.fz q d h);simpa using this
end
abbrev bx:=List (Option D)
def lk:bx->Nat->Option D
 |[],_=>none
 |x::_,0=>x
 |_::r,i+1=>lk r i
theorem pU:∀(τ:bx) (i:Nat),lk τ i=(τ[i]?).join
 |[],i=>by simp[lk]
 |x::r,0=>by simp[lk]
 |x::r,i+1=>by simp[lk,pU r i]
structure En where
 A:Ar
 ι:Io
 H:Hp
structure RS(mg:au)(ι:Io)(n:Nat)(H:Hp)(τ:bx)(σ:L2.St):Prop where
 len:τ.length=σ.length
 at':∀i d,lk τ i=some d->∃v,σ[i]?=some (some v)/\RV mg ι n H d v
structure cC(mg:au)(N:En)(A:Ar)(ι:Io)(τ:bx)(σ:L2.St)(H:Hp):Prop where
 ra:RA mg ι H A
 rs:RS mg ι A.length H τ σ
 ex:Ext N.A N.ι N.H A ι H
abbrev DK:=D->Ar->Prop
abbrev aK:=bx->Ar->DK->Prop
abbrev di:=bx->Ar->(Bool->Ar->Prop)->Prop
abbrev cO:=bx->Ar->(List D->Ar->Prop)->Prop
def Kt(mg:au)(A:Ar)(ι:Io)(H:Hp)(R:DK)(Q:VK):Prop:=∀v A' ι' H' u,R v A'->Ext A ι H A' ι' H'->RA mg ι' H' A'->RV mg ι' A'.length H' v u->Q u H'
def j8(mg:au)(A:Ar)(ι:Io)(H:Hp)(R:Bool->Ar->Prop)(Q:Bool->Hp->Prop):Prop:=∀v A' ι' H',R v A'->Ext A ι H A' ι' H'->RA mg ι' H' A'->Q v H'
def Dh(mg:au)(A:Ar)(ι:Io)(H:Hp)(R:List D->Ar->Prop)(Q:List V->Hp->Prop):Prop:=∀v A' ι' H' u,R v A'->Ext A ι H A' ι' H'->RA mg ι' H' A'->aq mg ι' A'.length H' v u->Q u H'
def up(mg:au)(N:En)(m:aK):TE:=λσ H Q=>∃A ι τ R,cC mg N A ι τ σ H/\m τ A R/\Kt mg A ι H R Q
def b8(mg:au)(N:En)(m:di):TT:=λσ H Q=>∃A ι τ R,cC mg N A ι τ σ H/\m τ A R/\j8 mg A ι H R Q
def eV(mg:au)(N:En)(m:cO):TA:=λσ H Q=>∃A ι τ R,cC mg N A ι τ σ H/\m τ A R/\Dh mg A ι H R Q
section
variable{mg:au}{N:En}{A A':Ar}{ι ι':Io}{τ:bx}{σ:L2.St}{H H':Hp}
theorem RS.ext(e:Ext A ι H A' ι' H')(r:RS mg ι A.length H τ σ):RS mg ι' A'.length H' τ σ:=⟨r.len,λi d h=>by
 obtain⟨v,h1,h2⟩:=r.at' i d h;exact⟨v,h1,RV.ext e d v h2⟩⟩
theorem cC.next(S:cC mg N A ι τ σ H)(e:Ext A ι H A' ι' H')(r:RA mg ι' H' A'):cC mg N A' ι' τ σ H':=⟨r,S.rs.ext e,S.ex.trans e⟩
theorem Kt.from{R:DK}{Q:VK}(k:Kt mg A ι H R Q)(e:Ext A ι H A' ι' H'):Kt mg A' ι' H' R Q:=λv b a H2 u q c=>k v b a H2 u q (e.trans c)
theorem j8.from{R:Bool->Ar->Prop}{Q:Bool->Hp->Prop}(k:j8 mg A ι H R Q)(e:Ext A ι H A' ι' H'):j8 mg A' ι' H' R Q:=λv b a H2 q c=>k v b a H2 q (e.trans c)
theorem Kt.here{R:DK}{Q:VK}{d:D}{v:V}(k:Kt mg A ι H R Q)(r:RA mg ι H A)(q:R d A)(h:RV mg ι A.length H d v):Q v H:=k d A ι H v q r.refl r h
theorem j8.here{R:Bool->Ar->Prop}{Q:Bool->Hp->Prop}{b:Bool}(k:j8 mg A ι H R Q)(r:RA mg ι H A)(q:R b A):Q b H:=k b A ι H q r.refl r
end
section
variable{X:Cx}{e:Expr}
theorem cP{t t':TE}(h:PE X e t)(w:∀σ H Q,t' σ H Q->t σ H Q):PE X e t':=λpins s σ H Q I q=>h pins s σ H Q I (w σ H Q q)
theorem o8{t t':TT}(h:PT X e t)(w:∀σ H Q,t' σ H Q->t σ H Q):PT X e t':=λpins s σ H Q I q=>h pins s σ H Q I (w σ H Q q)
theorem yx{t t':TT}(h:PW X e t)(w:∀σ H Q,t' σ H Q->t σ H Q):PW X e t':=λwhole pins s σ H Q I q=>h whole pins s σ H Q I (w σ H Q q)
theorem x8{es:List Expr}{t t':TA}(h:PA X es t)(w:∀σ H Q,t' σ H Q->t σ H Q):PA X es t':=λpos pins s σ H Q I q=>h pos pins s σ H Q I (w σ H Q q)
theorem gG{st:Stmt}{t t':TS}(h:PS X st t)(w:∀D σ H,t' D σ H->t D σ H):PS X st t':=λpins s σ H D I q=>h pins s σ H D I (w D σ H q)
theorem yw{st:List Stmt}{t t':TS}(h:cj X st t)(w:∀D σ H,t' D σ H->t D σ H):cj X st t':=λpins s σ H D I q=>h pins s σ H D I (w D σ H q)
end
def mw(i:Nat):aK:=λτ A R=>match lk τ i with
 |some v=>R v A
 |none=>False
def dC(d:D):aK:=λ_ A R=>R d A
section
variable{X:Cx}{N:En}{pos:Pos}
theorem EX{i:Nat}{x:Str}(b:X.N[i]?=some x)(c:kh X.env.scope x)(hd:(x==("__debug__":Str))=false:=by decide)(a:(x==("__classdict__":Str))=false:=by decide):PE X (.Name x pos) (up X.mg N (mw i)):=
 cP (J6 b c hd a) λσ H Q h=>by
  obtain⟨A,ι,τ,R,S,h,k⟩:=h;unfold mw at h;split at h
  .rename_i v e
   obtain⟨u,h1,h2⟩:=S.rs.at' i v e;exact⟨u,h1,k.here S.ra h h2⟩
  .exact h.elim
theorem mC{e:Expr}{d:D}{v:V}(h:PE X e (tC v))(r:∀ι n H,RV X.mg ι n H d v):PE X e (up X.mg N (dC d)):=
 cP h λσ H Q h=>by
  obtain⟨A,ι,τ,R,S,h,k⟩:=h;exact k.here S.ra h (r _ _ _)
theorem ai{i j}:PE X (.Constant (.int i) j pos) (up X.mg N (dC (.int i))):=mC JW λ_ _ _=>rfl
theorem dU{b j}:PE X (.Constant (.bool b) j pos) (up X.mg N (dC (.bl b))):=mC JM λ_ _ _=>rfl
theorem aN{x j}:PE X (.Constant (.str x) j pos) (up X.mg N (dC (.str x))):=mC J4 λ_ _ _=>rfl
theorem eK{x:Str}{i:Int}{t:Tok}(a:X.mg x=some (.int i t))(b:Gl X x:=by rfl)(hd:(x==("__debug__":Str))=false:=by decide):PE X (.Name x pos) (up X.mg N (dC (.int i))):=
 mC (Aa (v:=.int i) b a ⟨_,rfl⟩ hd) λ_ _ _=>rfl
end
abbrev dh:=D->D->Ar->DK->Prop
def cX(mg:au)(r:R2)(f:dh):Prop:=∀x y A ι H u v R Q,RA mg ι H A->RV mg ι A.length H x u->RV mg ι A.length H y v->f x y A R->Kt mg A ι H R Q->r u v H Q
def dI(f:dh)(ma mb:aK):aK:=λτ A R=>ma τ A λx A1=>mb τ A1 λy A2=>f x y A2 R
section
variable{X:Cx}{N:En}{pos:Pos}{a b c:Expr}{ma mb mc:aK}{f f':dh}{r r':R2}
theorem qV(h:cX X.mg r f){σ:L2.St}{H:Hp}{Q:VK}(q:up X.mg N (dI f ma mb) σ H Q):nH r (up X.mg N ma) (up X.mg N mb) σ H Q:=by
 obtain⟨A,ι,τ,R,S,q,k⟩:=q;have q:ma τ A (λx a=>mb τ a λy b=>f x y b R):=q;refine⟨A,ι,τ,_,S,q,λx a c H1 u i e j l=>?_⟩;refine⟨a,c,τ,_,S.next e j,i,λy b d H2 v m g n v2=>?_⟩;exact h x y b d H2 u v R Q n (RV.ext g x u l) v2 m (k.from (e.trans g))
theorem mD{op:Operator}(c:aV X (binaryOp op) r)(hd:cX X.mg r f)(d:PE X a (up X.mg N ma))(e:PE X b (up X.mg N mb)):PE X (.BinOp a op b pos) (up X.mg N (dI f ma mb)):=
 cP (J2 c d e) λ_ _ _ h=>qV hd h
theorem ya{op:CmpOp}(c:aV X (compareOp op) r)(hd:cX X.mg r f)(d:PE X a (up X.mg N ma))(e:PE X b (up X.mg N mb))(g:behindInMarks op b=false):PE X (.Compare a [op] [b] pos) (up X.mg N (dI f ma mb)):=
 cP (JS c d e g) λ_ _ _ h=>qV hd h
def gE(m:aK):di:=λτ A R=>m τ A λx A1=>match x with
 |.bl k=>R k A1
 |_=>False
theorem vz{t:TE}{m:aK}(d:∀σ H Q,up X.mg N m σ H Q->t σ H Q){σ:L2.St}{H:Hp}{Q:Bool->Hp->Prop}(q:b8 X.mg N (gE m) σ H Q):vf t σ H Q:=by
 obtain⟨A,ι,τ,R,S,q,k⟩:=q;refine d _ _ _ ⟨A,ι,τ,_,S,q,λx e a H1 u c f g h=>?_⟩;cases x with
 |bl b=>exact⟨b,h,k b e a H1 c f g⟩
 |_=>exact c.elim
theorem mJ{op:CmpOp}(c:aV X (compareOp op) r)(hd:cX X.mg r f)(d:PE X a (up X.mg N ma))(e:PE X b (up X.mg N mb))(g:behindInMarks op b=false):PT X (.Compare a [op] [b] pos) (b8 X.mg N (gE (dI f ma mb))):=
 o8 (KI c d e g) λ_ _ _ h=>vz (λ_ _ _ h=>qV hd h) h
def mu(f f':dh)(ma mb mc:aK):aK:=λτ A R=>ma τ A λx A1=>mb τ A1 λy A2=>f x y A2 λz A3=>match z with
 |.bl k=>cond k (mc τ A3 λw A4=>f' y w A4 R) (R (.bl false) A3)
 |_=>False
theorem Cn(h:cX X.mg r f)(h':cX X.mg r' f'){σ:L2.St}{H:Hp}{Q:VK}(q:up X.mg N (mu f f' ma mb mc) σ H Q):vd r r' (up X.mg N ma) (up X.mg N mb) (up X.mg N mc) σ H Q:=by
 obtain⟨A,ι,τ,R,S,q,k⟩:=q;refine⟨A,ι,τ,_,S,q,λx s e H1 u t a m B=>?_⟩;refine⟨s,e,τ,_,S.next a m,t,λy C g H2 v D c n v2=>?_⟩;refine h x y C g H2 u v _ _ n (RV.ext c x u B) v2 D λz E i L w j d o F=>?_;cases z with
 |bl b=>
  refine⟨b,F,?_⟩;cases b with
  |true=>
   rw[ao rfl];refine⟨E,i,τ,_,((S.next a m).next c n).next d o,j,λz G l I w J p K v4=>?_⟩;exact h' y z G l I v w R Q K (RV.ext (d.trans p) y v v2) v4 J (k.from (((a.trans c).trans d).trans p))
  |false=>
   rw[av bR];exact(k.from ((a.trans c).trans d)).here o j rfl
 |_=>exact j.elim
theorem ER{op d:CmpOp}(i:aV X (compareOp op) r)(e:aV X (compareOp d) r')(hd:cX X.mg r f)(g:cX X.mg r' f')(j:PE X a (up X.mg N ma))(k:PE X b (up X.mg N mb))(hc:PE X c (up X.mg N mc))
  (l:lastMarks [op,d] [b,c]=false:=by with_unfolding_all rfl):PE X (.Compare a [op,d] [b,c] pos) (up X.mg N (mu f f' ma mb mc)):=
 cP (JR i e j k hc l) λ_ _ _ h=>Cn hd g h
theorem Fc{op d:CmpOp}(i:aV X (compareOp op) r)(e:aV X (compareOp d) r')(hd:cX X.mg r f)(g:cX X.mg r' f')(j:PE X a (up X.mg N ma))(k:PE X b (up X.mg N mb))(hc:PE X c (up X.mg N mc))
  (l:lastMarks [op,d] [b,c]=false:=by with_unfolding_all rfl):PT X (.Compare a [op,d] [b,c] pos) (b8 X.mg N (gE (mu f f' ma mb mc))):=
 o8 (KH i e j k hc l) λ_ _ _ h=>vz (λ_ _ _ h=>Cn hd g h) h
theorem bQ{m:aK}(h:PE X a (up X.mg N m))(b:∀whole,isTrue a X.env whole=(do let v <-whole;standAt a.pos;holding [v] (truthy v)):=by intro _;rfl):PT X a (b8 X.mg N (gE m)):=
 o8 (KL h b) λ_ _ _ q=>vz (λ_ _ _ h=>h) q
def Eb(t u:di):di:=λτ A R=>t τ A λc A1=>cond c (u τ A1 R) (R false A1)
def Es(t u:di):di:=λτ A R=>t τ A λc A1=>cond c (R true A1) (u τ A1 R)
def Er(t:di):di:=λτ A R=>t τ A λc A1=>R (!c) A1
variable{tA tB:di}{rest:List Expr}
theorem Fe(b:PT X a (b8 X.mg N tA)):PW X (.BoolOp .And [a] pos) (b8 X.mg N tA):=pw_and1 b
theorem dw(b:PT X a (b8 X.mg N tA)):PW X (.BoolOp .Or [a] pos) (b8 X.mg N tA):=pw_or1 b
theorem Fd(g:PT X a (b8 X.mg N tA))(h:PW X (.BoolOp .And (b::rest) pos) (b8 X.mg N tB)):PW X (.BoolOp .And (a::b::rest) pos) (b8 X.mg N (Eb tA tB)):=
 yx (pw_and g h) λσ H Q q=>by
  obtain⟨A,ι,τ,R,S,q,k⟩:=q;refine⟨A,ι,τ,_,S,q,λx i c H1 e d f=>?_⟩;cases x with
  |true=>rw[ao rfl];exact⟨i,c,τ,_,S.next d f,e,k.from d⟩
  |false=>rw[av bR];exact(k.from d).here f e
theorem cF(g:PT X a (b8 X.mg N tA))(h:PW X (.BoolOp .Or (b::rest) pos) (b8 X.mg N tB)):PW X (.BoolOp .Or (a::b::rest) pos) (b8 X.mg N (Es tA tB)):=
 yx (pw_or g h) λσ H Q q=>by
  obtain⟨A,ι,τ,R,S,q,k⟩:=q;refine⟨A,ι,τ,_,S,q,λx i c H1 e d f=>?_⟩;cases x with
  |true=>rw[ao rfl];exact(k.from d).here f e
  |false=>rw[av bR];exact⟨i,c,τ,_,S.next d f,e,k.from d⟩
theorem bP(b:PT X a (b8 X.mg N tA)):PT X (.UnaryOp .Not a pos) (b8 X.mg N (Er tA)):=
 o8 (KJ b) λσ H Q q=>by
  obtain⟨A,ι,τ,R,S,q,k⟩:=q;exact⟨A,ι,τ,_,S,q,λx g c H1 d e f=>(k.from e).here f d⟩
def Ec(ma mb:aK):aK:=λτ A R=>ma τ A λx A1=>match x with
 |.bl c=>cond c (mb τ A1 R) (R (.bl false) A1)
 |_=>False
theorem jz{op}(h:PE X a (up X.mg N ma)):PE X (.BoolOp op [a] pos) (up X.mg N ma):=J1 h
theorem jx(h:PE X a (up X.mg N ma))(i:PE X (.BoolOp .And (b::rest) pos) (up X.mg N mb)):PE X (.BoolOp .And (a::b::rest) pos) (up X.mg N (Ec ma mb)):=
 cP (JL h i) λσ H Q q=>by
  obtain⟨A,ι,τ,R,S,q,k⟩:=q;refine⟨A,ι,τ,_,S,q,λx j d H1 u e f g l=>?_⟩;cases x with
  |bl c=>
   refine⟨c,l,?_⟩;cases c with
   |true=>rw[ao rfl];exact⟨j,d,τ,_,S.next f g,e,k.from f⟩
   |false=>rw[av bR];exact(k.from f).here g e rfl
  |_=>exact e.elim
def Eh(t:di)(ma mb:aK):aK:=λτ A R=>t τ A λc A1=>cond c (ma τ A1 R) (mb τ A1 R)
theorem yb(hc:PT X c (b8 X.mg N tA))(i:PE X a (up X.mg N ma))(j:PE X b (up X.mg N mb)):PE X (.IfExp c a b pos) (up X.mg N (Eh tA ma mb)):=
 cP (JV hc i j) λσ H Q q=>by
  obtain⟨A,ι,τ,R,S,q,k⟩:=q;refine⟨A,ι,τ,_,S,q,λx f d H1 g e h=>?_⟩;cases x with
  |true=>rw[ao rfl];exact⟨f,d,τ,_,S.next e h,g,k.from e⟩
  |false=>rw[av bR];exact⟨f,d,τ,_,S.next e h,g,k.from e⟩
end
def Ep:cO:=λ_ A R=>R [] A
def Ed(m:aK)(n:cO):cO:=λτ A R=>m τ A λx A1=>n τ A1 λxs A2=>R (x::xs) A2
def Ew(n:cO):aK:=λτ A R=>n τ A λxs A1=>xs.length<=sizeLine/\R (.tup xs) A1
def El(n:cO):aK:=λτ A R=>n τ A λxs A1=>xs.length<=sizeLine/\R (.ref A1.length) (A1++[.lst xs])
section
variable{X:Cx}{N:En}{pos:Pos}{e:Expr}{es:List Expr}{m:aK}{n:cO}
theorem af:PA X [] (eV X.mg N Ep):=x8 z3 λσ H Q q=>by
 obtain⟨A,ι,τ,R,S,q,k⟩:=q;exact k [] A ι H [] q S.ra.refl S.ra rfl
theorem aa(f:PE X e (up X.mg N m))(g:PA X es (eV X.mg N n))(h:starEach (e::es) X.env=(false,eval e X.env)::starEach es X.env:=by rfl):PA X (e::es) (eV X.mg N (Ed m n)):=
 x8 (uC f g h) λσ H Q q=>by
  obtain⟨A,ι,τ,R,S,q,k⟩:=q;refine⟨A,ι,τ,_,S,q,λx i a H1 u j c l o=>?_⟩;refine⟨i,a,τ,_,S.next c l,j,λy p b H2 v r d s v2=>?_⟩;exact k _ p b H2 _ r (c.trans d) s ⟨u,v,rfl,RV.ext d x u o,v2⟩
theorem m6{mg:au}{A:Ar}{ι:Io}{H:Hp}{R:DK}{Q:VK}{ds:List D}{xs:List V}{p:Addr}(k:Kt mg A ι H R Q)(r:RA mg ι H A)(h:aq mg ι A.length H ds xs)(q:R (.tup ds) A)(a:H p=none):Q (.ref p) (upd H p (.tup xs)):=by
 have E:Ext A ι H A ι (upd H p (.tup xs)):=r.yK a;exact k _ A ι _ _ q E (r.fix E λb o z=>by rw[bA (dJ z a)];exact z) ⟨p,xs,rfl,fX,aq.ext E ds xs h⟩
theorem k7{mg:au}{A:Ar}{ι:Io}{H:Hp}{R:DK}{Q:VK}{ds:List D}{xs:List V}{p:Addr}(k:Kt mg A ι H R Q)(r:RA mg ι H A)(h:aq mg ι A.length H ds xs)(q:R (.ref A.length) (A++[.lst ds]))(a:H p=none):Q (.ref p) (upd H p (.lst xs)):=by
 have E:Ext A ι H (A++[.lst ds]) (λr=>if r=A.length then p else ι r) (upd H p (.lst xs)):=r.tF a;obtain⟨b,d⟩:=r.push (c:=.lst ds) (o:=.lst xs) a ⟨xs,fX,by simpa using aq.ext E ds xs h⟩;refine k _ _ _ _ _ q d b ⟨by simp,?_⟩;show V.ref p=V.ref (if A.length=A.length then p else ι A.length);rw[ao rfl]
theorem c9{c}(h:PA X es (eV X.mg N n)):PE X (.Tuple es c pos) (up X.mg N (Ew n)):=cP (J5 h) λσ H Q q=>by
 obtain⟨A,ι,τ,R,S,q,k⟩:=q;refine⟨A,ι,τ,_,S,q,λx i d H1 u a e f b=>?_⟩;exact⟨by rw[<-aq.length b];exact a.1,λp g=>m6 (k.from e) f b a.2 g⟩
theorem eH(h:PA X es (eV X.mg N n)):PE X (.List es pos) (up X.mg N (El n)):=cP (JZ h) λσ H Q q=>by
 obtain⟨A,ι,τ,R,S,q,k⟩:=q;refine⟨A,ι,τ,_,S,q,λx g c H1 u a d e b=>?_⟩;exact⟨by rw[<-aq.length b];exact a.1,λp f=>k7 (k.from d) e b a.2 f⟩
end
section
variable{mg:au}{K:Frag}{A:Ar}{ι:Io}{H:Hp}
theorem RA.lst(r:RA mg ι H A){q:Nat}{ds:List D}(h:A[q]?=some (.lst ds)):∃xs,H (ι q)=some (.lst xs)/\aq mg ι A.length H ds xs:=r.fz q _ h
theorem RA.dct(r:RA mg ι H A){q:Nat}{ds:List (Key×D)}(h:A[q]?=some (.dct ds)):∃xs,H (ι q)=some (.dK xs)/\RK mg ι A.length H ds xs:=r.fz q _ h
theorem RA.iB(r:RA mg ι H A){q:Nat}{o:Obj}{ds:List (Key×D)}(h:A[q]?=some (.iB o ds)):∃xs,H (ι q)=some (.b5 o (.dK xs))/\RK mg ι A.length H ds xs:=r.fz q _ h
theorem aq.ints:∀(ns:List Int) {n:Nat},aq mg ι n H (ns.map D.int) (ns.map V.int)
 |[],_=>rfl
 |i::r,n=>⟨_,_,rfl,rfl,aq.ints r⟩
theorem aq.zQ{n:Nat}{ds:List D}(h:aq mg ι n H ds []):ds=[]:=by
 cases ds with
 |nil=>rfl
 |cons d r=>obtain⟨x,r,e,_⟩:=h;cases e
end
abbrev Aj(K:Frag):R2:=λx y H Q=>fT (λi j=>.int (i+j)) x y H Q\/(∃i j,x=.str i/\y=.str j/\i.length+j.length<=sizeLine/\Q (.str (i++j)) H)\/Am K x y H Q\/Al x y H Q
theorem Jd{X:Cx}:aV X (binaryOp .Add) (Aj X.K):=Jm.or (Jo.or (Jq.or Jp))
@[irreducible] def oV(r q:Nat)(A:Ar)(R:DK):Prop:=match A[r]?,A[q]? with
 |some (.lst xs),some (.lst ys)=>xs.length+ys.length<=sizeLine/\R (.ref A.length) (A++[.lst (xs++ys)])
 |_,_=>False
def se:dh:=λx y A R=>match x,y with
 |.int i,.int j=>R (.int (i+j)) A
 |.str a,.str b=>a.length+b.length<=sizeLine/\R (.str (a++b)) A
 |.tup xs,.tup ys=>xs.length+ys.length<=sizeLine/\R (.tup (xs++ys)) A
 |.ref r,.ref q=>oV r q A R
 |_,_=>False
theorem Ex{mg:au}{K:Frag}:cX mg (Aj K) se:=by
 intro x y A ι H u v R Q ra e f h k;unfold se at h;split at h
 .cases e;cases f
  exact .inl ⟨_,_,rfl,rfl,k.here ra h rfl⟩
 .cases e;cases f
  exact .inr (.inl ⟨_,_,rfl,rfl,h.1,k.here ra h.2 rfl⟩)
 .obtain⟨a,xs,rfl,g,c⟩:=e
  obtain⟨b,ys,rfl,i,d⟩:=f;refine .inr (.inr (.inl ⟨a,b,xs,ys,rfl,rfl,bf.of g,bf.of i,by rw[<-aq.length c,<-aq.length d];exact h.1,λz=>?_,λ_ z=>?_,λ_ _ p j=>m6 k ra (c.app d) h.2 j⟩))
  .subst z
   obtain rfl:=aq.zQ c;exact k.here ra h.2 ⟨b,ys,rfl,i,d⟩
  .subst z
   obtain rfl:=aq.zQ d;exact k.here ra h.2 ⟨a,xs,rfl,g,by rw[gW];exact c⟩
 .rename_i r q
  unfold oV at h;split at h
  .rename_i xs ys g i
   obtain⟨l,h1,c⟩:=ra.lst g;obtain⟨m,h2,d⟩:=ra.lst i;obtain⟨_,rfl⟩:=e;obtain⟨_,rfl⟩:=f;exact .inr (.inr (.inr ⟨_,_,l,m,rfl,rfl,h1,h2,by rw[<-aq.length c,<-aq.length d];exact h.1,λp j=>k7 k ra (c.app d) h.2 j⟩))
  .exact h.elim
 .exact h.elim
def intD(C:Int->Int->Prop)(g:Int->Int->D):dh:=λx y A R=>match x,y with
 |.int i,.int j=>C i j/\R (g i j) A
 |_,_=>False
def pK(g:Int->Int->D):dh:=λx y A R=>match x,y with
 |.int i,.int j=>R (g i j) A
 |_,_=>False
theorem sQ{mg:au}{C:Int->Int->Prop}{g:Int->Int->V}{g':Int->Int->D}(a:∀i j ι n H,RV mg ι n H (g' i j) (g i j)):cX mg (rI C g) (intD C g'):=by
 intro x y A ι H u v R Q ra b c h k;unfold intD at h;split at h
 .cases b;cases c
  exact⟨_,_,rfl,rfl,h.1,k.here ra h.2 (a _ _ _ _ _)⟩
 .exact h.elim
theorem xX{mg:au}{g:Int->Int->V}{g':Int->Int->D}(a:∀i j ι n H,RV mg ι n H (g' i j) (g i j)):cX mg (fT g) (pK g'):=by
 intro x y A ι H u v R Q ra b c h k;unfold pK at h;split at h
 .cases b;cases c
  exact⟨_,_,rfl,rfl,k.here ra h (a _ _ _ _ _)⟩
 .exact h.elim
abbrev Ml:dh:=pK λi j=>.int (i - j)
abbrev IP:dh:=intD oh λi j=>.int (i*j)
abbrev IJ:dh:=intD (λ_ j=>0<j) λi j=>.int (i%j)
abbrev Km:dh:=intD vS λi j=>.int (i ^ j.toNat)
section
variable{X:Cx}{N:En}{pos:Pos}{a b c:Expr}{ma mb mc:aK}
theorem c8(c:PE X a (up X.mg N ma))(d:PE X b (up X.mg N mb)):PE X (.BinOp a .Add b pos) (up X.mg N (dI se ma mb)):=mD Jd Ex c d
theorem i7(c:PE X a (up X.mg N ma))(d:PE X b (up X.mg N mb)):PE X (.BinOp a .Sub b pos) (up X.mg N (dI Ml ma mb)):=mD JH (xX λ_ _ _ _ _=>rfl) c d
theorem kF(c:PE X a (up X.mg N ma))(d:PE X b (up X.mg N mb)):PE X (.BinOp a .Mult b pos) (up X.mg N (dI IP ma mb)):=mD JC (sQ λ_ _ _ _ _=>rfl) c d
theorem kE(c:PE X a (up X.mg N ma))(d:PE X b (up X.mg N mb)):PE X (.BinOp a .Mod b pos) (up X.mg N (dI IJ ma mb)):=mD JB (sQ λ_ _ _ _ _=>rfl) c d
theorem EV(c:PE X a (up X.mg N ma))(d:PE X b (up X.mg N mb)):PE X (.BinOp a .Pow b pos) (up X.mg N (dI Km ma mb)):=mD JG (sQ λ_ _ _ _ _=>rfl) c d
end
abbrev AA:R2:=λx y H Q=>fT (λi j=>.bl (decide (i<j))) x y H Q\/∃i j,x=.str i/\y=.str j/\Q (.bl (decide (i.cps.toList<j.cps.toList))) H
abbrev Az:R2:=λx y H Q=>fT (λi j=>.bl (decide (i<=j))) x y H Q\/∃i j,x=.str i/\y=.str j/\Q (.bl (!decide (j.cps.toList<i.cps.toList))) H
theorem Je{X:Cx}:aV X (compareOp .Lt) AA:=Jz.or JA
theorem p9{X:Cx}:aV X (compareOp .LtE) Az:=Jx.or Jy
def uc:dh:=λx y A R=>match x,y with
 |.int i,.int j=>R (.bl (decide (i<j))) A
 |.str a,.str b=>R (.bl (decide (a.cps.toList<b.cps.toList))) A
 |_,_=>False
def kY:dh:=λx y A R=>match x,y with
 |.int i,.int j=>R (.bl (decide (i<=j))) A
 |.str a,.str b=>R (.bl (!decide (b.cps.toList<a.cps.toList))) A
 |_,_=>False
theorem EF{mg:au}:cX mg AA uc:=by
 intro x y A ι H u v R Q ra a b h k;unfold uc at h;split at h
 .cases a;cases b;exact .inl ⟨_,_,rfl,rfl,k.here ra h rfl⟩
 .cases a;cases b;exact .inr ⟨_,_,rfl,rfl,k.here ra h rfl⟩
 .exact h.elim
theorem oZ{mg:au}:cX mg Az kY:=by
 intro x y A ι H u v R Q ra a b h k;unfold kY at h;split at h
 .cases a;cases b;exact .inl ⟨_,_,rfl,rfl,k.here ra h rfl⟩
 .cases a;cases b;exact .inr ⟨_,_,rfl,rfl,k.here ra h rfl⟩
 .exact h.elim
abbrev yY:dh:=pK λi j=>.bl (decide (j<i))
theorem Ez{mg:au}:cX mg (fT λi j=>.bl (decide (j<i))) yY:=xX λ_ _ _ _ _=>rfl
mutual
def toQ:D->PyData
 |.aM=>.none
 |.bl b=>.bool b
 |.int i=>.int i
 |.str x=>.str x
 |.tup xs=>.tuple (aU xs)
 |.ref _=>.none
 |.fl ns=>.list (ns.map .int)
 |.exc _=>.none
def aU:List D->List PyData
 |[]=>[]
 |d::r=>toQ d::aU r
end
mutual
def eU:D->Bool
 |.tup xs=>ff xs
 |.ref _=>false
 |.exc _=>false
 |_=>true
def ff:List D->Bool
 |[]=>true
 |d::r=>eU d&&ff r
end
def bX(A:Ar):D->PyData
 |.ref r=>match A[r]? with
  |some (.lst xs)=>.list (aU xs)
  |_=>.none
 |d=>toQ d
def fS(A:Ar):D->Bool
 |.ref r=>match A[r]? with
  |some (.lst xs)=>ff xs
  |_=>false
 |d=>eU d
section
variable{mg:au}{K:Frag}{A:Ar}{ι:Io}{H:Hp}
theorem E7:∀ns:List Int,d7 K H (ns.map V.int) (ns.map PyData.int):=d7.ints
mutual
theorem RV.dp{n:Nat}:∀(d:D) (v:V),eU d=true->RV mg ι n H d v->Dp K H v (toQ d)
 |.aM,_,_,h=>by cases h;exact .aM
 |.bl b,_,_,h=>by cases h;exact .bl b
 |.int i,_,_,h=>by cases h;exact .int i
 |.str x,_,_,h=>by cases h;exact .str x
 |.tup ds,v,p,h=>by
  obtain⟨a,xs,rfl,e,r⟩:=h;exact .tup (bf.of e) (aq.dp ds xs (by simpa[eU] using p) r)
 |.ref _,_,p,_=>by simp[eU] at p
 |.fl ns,v,_,h=>by
  obtain⟨a,o,rfl,e⟩:=h;exact .lst (.inl (.inr ⟨o,e⟩)) (E7 ns)
 |.exc _,_,p,_=>by simp[eU] at p
theorem aq.dp{n:Nat}:∀(ds:List D) (a:List V),ff ds=true->aq mg ι n H ds a->d7 K H a (aU ds)
 |[],a,_,h=>by cases (show a=[] from h);exact .nil
 |d::ds,a,p,h=>by
  obtain⟨x,r,rfl,h1,h2⟩:=h;have b:eU d=true/\ff ds=true:=by simpa[ff] using p
  exact .cons (RV.dp d x b.1 h1) (aq.dp ds r b.2 h2)
end
theorem RA.dp(ra:RA mg ι H A){d:D}{v:V}(p:fS A d=true)(h:RV mg ι A.length H d v):Dp K H v (bX A d):=by
 cases d with
 |ref r=>
  obtain⟨_,rfl⟩:=h;unfold fS at p;unfold bX;simp only at p ⊢;split at p
  .rename_i xs e
   obtain⟨a,h1,b⟩:=ra.lst e;exact .lst (aZ.of h1) (aq.dp xs a p b)
  .cases p
 |_=>exact RV.dp _ v p h
end
@[irreducible] def e8(neg:Bool)(x y:D)(A:Ar)(R:DK):Prop:=fS A x=true/\fS A y=true/\(bX A x).canLay0=true/\(bX A y).canLay0=true/\min (bX A x).depth (bX A y).depth<=64/\R (.bl (if neg then !PyData.eqv (bX A x) (bX A y) else PyData.eqv (bX A x) (bX A y))) A
def kI:dh:=λx y A R=>match x,y with
 |.int i,.int j=>R (.bl (decide (i=j))) A
 |.str a,.str b=>R (.bl (decide (a=b))) A
 |.bl a,.bl b=>R (.bl (decide (a=b))) A
 |x,y=>e8 false x y A R
def uw:dh:=λx y A R=>match x,y with
 |.int i,.int j=>R (.bl (!decide (i=j))) A
 |.str a,.str b=>R (.bl (!decide (a=b))) A
 |.bl a,.bl b=>R (.bl (!decide (a=b))) A
 |x,y=>e8 true x y A R
theorem zU{X:Cx}(a:X.A.units+64<cLine):aV X (compareOp .Eq) (λx y H Q=>uJ x y H Q\/uK X.K x y H Q):=Jt.or (Ju a)
theorem Jf{X:Cx}(a:X.A.units+64<cLine):aV X (compareOp .NotEq) (λx y H Q=>uL x y H Q\/uM X.K x y H Q):=JD.or (JE a)
theorem xW{mg:au}{K:Frag}:cX mg (λx y H Q=>uJ x y H Q\/uK K x y H Q) kI:=by
 intro x y A ι H u v R Q ra a b h k;unfold kI at h;split at h
 .cases a;cases b
  rename_i i j;refine .inl ⟨rfl,?_⟩;have e:decide (V.int i=V.int j)=decide (i=j):=by simp
  rw[e];exact k.here ra h rfl
 .cases a;cases b
  rename_i i j;refine .inl ⟨rfl,?_⟩;have e:decide (V.str i=V.str j)=decide (i=j):=by simp
  rw[e];exact k.here ra h rfl
 .cases a;cases b
  rename_i i j;refine .inl ⟨rfl,?_⟩;have e:decide (V.bl i=V.bl j)=decide (i=j):=by simp
  rw[e];exact k.here ra h rfl
 .unfold e8 at h
  obtain⟨c,p2,d,f,hd,q⟩:=h;exact .inr ⟨_,_,ra.dp c a,ra.dp p2 b,d,f,hd,k.here ra q rfl⟩
theorem EH{mg:au}{K:Frag}:cX mg (λx y H Q=>uL x y H Q\/uM K x y H Q) uw:=by
 intro x y A ι H u v R Q ra a b h k;unfold uw at h;split at h
 .cases a;cases b
  rename_i i j;refine .inl ⟨rfl,?_⟩;have e:decide (V.int i=V.int j)=decide (i=j):=by simp
  rw[e];exact k.here ra h rfl
 .cases a;cases b
  rename_i i j;refine .inl ⟨rfl,?_⟩;have e:decide (V.str i=V.str j)=decide (i=j):=by simp
  rw[e];exact k.here ra h rfl
 .cases a;cases b
  rename_i i j;refine .inl ⟨rfl,?_⟩;have e:decide (V.bl i=V.bl j)=decide (i=j):=by simp
  rw[e];exact k.here ra h rfl
 .unfold e8 at h
  obtain⟨c,p2,d,f,hd,q⟩:=h;exact .inr ⟨_,_,ra.dp c a,ra.dp p2 b,d,f,hd,k.here ra q rfl⟩
def jb:D->Option Key
 |.int i=>some (.inl i)
 |.str x=>some (.inr x)
 |_=>none
def d9:List (Key×D)->Key->Option D
 |[],_=>none
 |p::r,k=>if p.1=k then some p.2 else d9 r k
@[irreducible] def kT(r:Nat)(y:D)(A:Ar)(R:DK):Prop:=match A[r]? with
 |some (.lst xs)=>(match y with
  |.int i=>(match bU xs i with
   |some v=>R v A
   |none=>False)
  |_=>False)
 |some (.dct kvs)=>(match jb y with
  |some k=>(match d9 kvs k with
   |some v=>R v A
   |none=>False)
  |none=>False)
 |some (.iB _ kvs)=>(match jb y with
  |some k=>(match d9 kvs k with
   |some v=>R v A
   |none=>False)
  |none=>False)
 |_=>False
def mO:dh:=λx y A R=>match x,y with
 |.tup xs,.int i=>match bU xs i with
  |some v=>R v A
  |none=>False
 |.str z,.int i=>match bU z.cps.toList i with
  |some c=>z.length<=sizeLine/\R (.str ⟨#[c]⟩) A
  |none=>False
 |.fl ns,.int i=>match bU ns i with
  |some c=>R (.int c) A
  |none=>False
 |.ref r,y=>kT r y A R
 |_,_=>False
section
variable{mg:au}{K:Frag}{A:Ar}{ι:Io}{H:Hp}
theorem aq.bU{n:Nat}{ds:List D}{a:List V}{i:Int}{d:D}(r:aq mg ι n H ds a)(h:L2.bU ds i=some d):∃v,L2.bU a i=some v/\RV mg ι n H d v:=by
 unfold L2.bU at h ⊢;rw[<-aq.length r];cases q:iF ds.length i with
 |none=>rw[q] at h;cases h
 |some j=>
  rw[q] at h;exact aq.get r h
theorem Ds{α β:Type}(f:α->β)(xs:List α)(i:Int):L2.bU (xs.map f) i=(L2.bU xs i).map f:=by
 unfold L2.bU;rw[bB];cases iF xs.length i with
 |none=>rfl
 |some j=>simp
theorem RK.get{n:Nat}:∀{kvs:List (Key×D)} {xs:List (Key×V)} {k:Key},RK mg ι n H kvs xs->(∀d,d9 kvs k=some d->∃v,dM xs k=some v/\RV mg ι n H d v)/\(d9 kvs k=none->dM xs k=none)
 |[],xs,k,h=>by
  cases (show xs=[] from h);exact⟨λd e=>by simp[d9] at e,λ_=>rfl⟩
 |p::r,xs,k,h=>by
  obtain⟨x,r',rfl,h1,h2⟩:=h;obtain⟨g1,g2⟩:=RK.get (k:=k) h2;unfold d9;by_cases hk:p.1=k
  .rw[ao hk]
   have e:dM ((p.1,x)::r') k=some x:=by simp[dM,hk]
   rw[e];exact⟨λd z=>by cases z;exact⟨x,rfl,h1⟩,λz=>by cases z⟩
  .rw[av hk]
   have e:dM ((p.1,x)::r') k=dM r' k:=by simp[dM,jn,hk]
   rw[e];exact⟨g1,g2⟩
theorem pO{n:Nat}{y:D}{v:V}{k:Key}(h:jb y=some k)(r:RV mg ι n H y v):v=kV k:=by
 cases y with
 |int i=>cases h;exact r
 |str x=>cases h;exact r
 |_=>cases h
end
def Av:R2:=λx y H Q=>∃a v,x=.ref a/\lV H a y (some v)/\Q v H
theorem Hy{X:Cx}(i:X.A.units+64<cLine):f9 X Av:=by
 intro value slice pins s σ H x y v u Q I c d h e;obtain⟨a,z,rfl,g,q⟩:=h;cases c;exact tail_any (E3 I g) PySem.F.slot_dict_getitem.lookup (Ey (by omega) I g d λj k f b=>⟨z,H,f,b,q⟩) e
abbrev Au(K:Frag):R2:=λx y H Q=>As K x y H Q\/Av x y H Q
theorem G8{X:Cx}(a:X.A.units+64<cLine):f9 X (Au X.K):=HB.or (Hy a)
theorem ED{mg:au}{K:Frag}:cX mg (Au K) mO:=by
 intro x y A ι H u v R Q ra j g h k;unfold mO at h;split at h
 .obtain⟨a,xs,rfl,l,b⟩:=j
  cases g;split at h
  .rename_i d e
   obtain⟨z,c,f⟩:=b.bU e;exact .inl (.inr (.inl ⟨a,xs,_,z,rfl,rfl,bf.of l,c,k.here ra h f⟩))
  .exact h.elim
 .cases j;cases g
  split at h
  .rename_i d e
   exact .inl (.inr (.inr ⟨_,_,_,rfl,rfl,h.1,e,k.here ra h.2 rfl⟩))
  .exact h.elim
 .obtain⟨a,o,rfl,l⟩:=j
  cases g;split at h
  .rename_i d e
   exact .inl (.inl ⟨a,_,_,_,rfl,rfl,.inl (.inr ⟨o,l⟩),by rw[Ds,e];rfl,k.here ra h rfl⟩)
  .exact h.elim
 .obtain⟨_,rfl⟩:=j
  unfold kT at h;split at h
  .rename_i xs e
   obtain⟨i,h1,b⟩:=ra.lst e;split at h
   .cases g
    split at h
    .rename_i d e
     obtain⟨z,c,f⟩:=b.bU e;exact .inl (.inl ⟨_,i,_,z,rfl,rfl,aZ.of h1,c,k.here ra h f⟩)
    .exact h.elim
   .exact h.elim
  .rename_i kvs e
   obtain⟨i,h1,b⟩:=ra.dct e;split at h
   .rename_i m n
    cases pO n g;split at h
    .rename_i d p
     obtain⟨z,c,f⟩:=(RK.get b).1 d p;exact .inr ⟨_,z,rfl,.inl ⟨i,m,.inl h1,rfl,c.symm⟩,k.here ra h f⟩
    .exact h.elim
   .exact h.elim
  .rename_i o kvs e
   obtain⟨i,h1,b⟩:=ra.iB e;split at h
   .rename_i m n
    cases pO n g;split at h
    .rename_i d p
     obtain⟨z,c,f⟩:=(RK.get b).1 d p;exact .inr ⟨_,z,rfl,.inl ⟨i,m,.inr ⟨o,h1⟩,rfl,c.symm⟩,k.here ra h f⟩
    .exact h.elim
   .exact h.elim
  .exact h.elim
 .exact h.elim
theorem EU{X:Cx}{N:En}{pos:Pos}{a b:Expr}{ma mb:aK}(c:X.A.units+64<cLine)(d:PE X a (up X.mg N ma))(e:PE X b (up X.mg N mb))(f:rT b):PE X (.Subscript a b pos) (up X.mg N (dI mO ma mb)):=
 cP (JX (G8 c) d e f) λ_ _ _ h=>qV ED h
structure lU where
 nx:bx->Ar->Prop
 rt:DK
 bk:bx->Ar->Prop:=λ_ _=>False
 ct:bx->Ar->Prop:=λ_ _=>False
abbrev cW:=lU->bx->Ar->Prop
def gz(mg:au)(A:Ar)(ι:Io)(H:Hp)(R:bx->Ar->Prop)(Q:L2.St->Hp->Prop):Prop:=∀τ A' ι' σ H',R τ A'->Ext A ι H A' ι' H'->RA mg ι' H' A'->RS mg ι' A'.length H' τ σ->Q σ H'
structure oq(mg:au)(A:Ar)(ι:Io)(H:Hp)(R:lU)(Q:Ends):Prop where
 nx:gz mg A ι H R.nx Q.nx
 rt:Kt mg A ι H R.rt Q.rt
 bk:gz mg A ι H R.bk Q.bk
 ct:gz mg A ι H R.ct Q.ct
def b7(mg:au)(N:En)(m:cW):TS:=λQ σ H=>∃A ι τ R,cC mg N A ι τ σ H/\m R τ A/\oq mg A ι H R Q
section
variable{mg:au}{N:En}{A A':Ar}{ι ι':Io}{τ bW:bx}{σ σ':L2.St}{H H':Hp}
theorem gz.from{R:bx->Ar->Prop}{Q:L2.St->Hp->Prop}(k:gz mg A ι H R Q)(e:Ext A ι H A' ι' H'):gz mg A' ι' H' R Q:=λτ b a σ H2 q c=>k τ b a σ H2 q (e.trans c)
theorem oq.from{R:lU}{Q:Ends}(k:oq mg A ι H R Q)(e:Ext A ι H A' ι' H'):oq mg A' ι' H' R Q:=⟨k.nx.from e,k.rt.from e,k.bk.from e,k.ct.from e⟩
theorem gz.here{R:bx->Ar->Prop}{Q:L2.St->Hp->Prop}(k:gz mg A ι H R Q)(S:cC mg N A ι τ σ H)(q:R τ A):Q σ H:=k τ A ι σ H q S.ra.refl S.ra S.rs
theorem cC.to(S:cC mg N A ι τ σ H)(e:Ext A ι H A' ι' H')(r:RA mg ι' H' A')(s:RS mg ι' A'.length H' bW σ'):cC mg N A' ι' bW σ' H':=⟨r,s,S.ex.trans e⟩
theorem zE:∀(τ:bx) (i:Nat) (d:D),i<τ.length->lk (τ.set i (some d)) i=some d
 |[],i,d,h=>by simp at h
 |x::r,0,d,_=>rfl
 |x::r,i+1,d,h=>zE r i d (by simpa using h)
theorem zD:∀(τ:bx) (i j:Nat) (d:Option D),j≠i->lk (τ.set i d) j=lk τ j
 |[],i,j,d,_=>rfl
 |x::r,0,0,d,h=>absurd rfl h
 |x::r,0,j+1,d,_=>rfl
 |x::r,i+1,0,d,_=>rfl
 |x::r,i+1,j+1,d,h=>zD r i j d (by omega)
theorem RS.set{n:Nat}{i:Nat}{d:D}{v:V}(r:RS mg ι n H τ σ)(h:RV mg ι n H d v):RS mg ι n H (τ.set i (some d)) (σ.set i (some v)):=⟨by simp[r.len],λj e q=>by
 by_cases a:j=i
 .subst a
  by_cases b:j<τ.length
  .rw[zE _ _ _ b] at q
   cases q;refine⟨v,?_,h⟩;rw[n_ (by rw[<-r.len];exact b)]
  .rw[List.set_eq_of_length_le (by omega)] at q
   rw[pU,vH (by omega)] at q;cases q
 .rw[zD _ _ _ _ a] at q
  obtain⟨w,h1,h2⟩:=r.at' j e q;exact⟨w,by rw[n9 (Ne.symm a)];exact h1,h2⟩⟩
theorem cC.set{i:Nat}{d:D}{v:V}(S:cC mg N A ι τ σ H)(h:RV mg ι A.length H d v):cC mg N A ι (τ.set i (some d)) (σ.set i (some v)) H:=⟨S.ra,S.rs.set h,S.ex⟩
end
def La:cW:=λR τ A=>R.nx τ A
def Lf(t u:cW):cW:=λR τ A=>t {R with nx:=u R} τ A
def K6(m:aK):cW:=λR τ A=>m τ A λ_ A1=>R.nx τ A1
def Ld(m:aK):cW:=λR τ A=>m τ A R.rt
def K8(c:di)(t u:cW):cW:=λR τ A=>c τ A λb A1=>cond b (t R τ A1) (u R τ A1)
section
variable{X:Cx}{N:En}{pos:Pos}{st:Stmt}{rest:List Stmt}{t u:cW}{e:Expr}{m:aK}
theorem aY:cj X [] (b7 X.mg N La):=yw KD λQ σ H q=>by
 obtain⟨A,ι,τ,R,S,q,k⟩:=q;exact k.nx.here S q
theorem aD(h1:PS X st (b7 X.mg N t))(h2:cj X rest (b7 X.mg N u)):cj X (st::rest) (b7 X.mg N (Lf t u)):=yw (KC h1 h2) λQ σ H q=>by
 obtain⟨A,ι,τ,R,S,q,k⟩:=q;exact⟨A,ι,τ,_,S,q,⟨λa d b e H1 f c g h=>⟨d,b,a,R,S.to c g h,f,k.from c⟩,k.rt,k.bk,k.ct⟩⟩
theorem aA(h1:PS X st (b7 X.mg N t)):cj X [st] (b7 X.mg N t):=KG h1
theorem e_(b:PE X e (up X.mg N m))(c:swapsWith e none pos.line X.env=pure false:=by rfl):PS X (.Expr e pos) (b7 X.mg N (K6 m)):=gG (Kr b c) λQ σ H q=>by
 obtain⟨A,ι,τ,R,S,q,k⟩:=q;exact⟨A,ι,τ,_,S,q,λv h d H1 u f a g i=>(k.nx.from a).here (S.next a g) f⟩
theorem aG(a:PE X e (up X.mg N m)):PS X (.Return (some e) pos) (b7 X.mg N (Ld m)):=gG (Ky a) λQ σ H q=>by
 obtain⟨A,ι,τ,R,S,q,k⟩:=q;exact⟨A,ι,τ,_,S,q,k.rt⟩
theorem aX{c:Expr}{a b:List Stmt}{tc:di}(hc:PT X c (b8 X.mg N tc))(i:cj X a (b7 X.mg N t))(j:cj X b (b7 X.mg N u)):PS X (.If c a b pos) (b7 X.mg N (K8 tc t u)):=gG (Ku hc i j) λQ σ H q=>by
 obtain⟨A,ι,τ,R,S,q,k⟩:=q;refine⟨A,ι,τ,_,S,q,λx f d H1 g e h=>?_⟩;cases x with
 |true=>rw[ao rfl];exact⟨f,d,τ,R,S.next e h,g,k.from e⟩
 |false=>rw[av bR];exact⟨f,d,τ,R,S.next e h,g,k.from e⟩
end
abbrev ig:=D->bx->Ar->(bx->Ar->Prop)->Prop
abbrev j5:=List D->bx->Ar->(bx->Ar->Prop)->Prop
def nN(mg:au)(N:En)(g:ig):TG:=λv σ H Q=>∃A ι τ d R,cC mg N A ι τ σ H/\RV mg ι A.length H d v/\g d τ A R/\gz mg A ι H R Q
def qU(mg:au)(N:En)(g:j5):gD:=λvs σ H Q=>∃A ι τ ds R,cC mg N A ι τ σ H/\aq mg ι A.length H ds vs/\g ds τ A R/\gz mg A ι H R Q
def gN(i:Nat):ig:=λd τ A R=>R (τ.set i (some d)) A
def yW:j5:=λds τ A R=>match ds with
 |[]=>R τ A
 |_=>False
def GP(g:ig)(h:j5):j5:=λds τ A R=>match ds with
 |d::r=>g d τ A λvQ A1=>h r vQ A1 R
 |[]=>False
def gT(n:Nat)(g:j5):ig:=λd τ A R=>match d with
 |.tup ds=>ds.length=n/\g ds τ A R
 |_=>False
section
variable{X:Cx}{N:En}{pos:Pos}{e tg:Expr}{es:List Expr}{m:aK}{g:ig}{gs:j5}
theorem yk{t t':TG}(h:PG X tg t)(w:∀v σ H Q,t' v σ H Q->t v σ H Q):PG X tg t':=λpins s σ H v u Q I r q=>h pins s σ H v u Q I r (w v σ H Q q)
theorem ym{t t':gD}(h:gB X es t)(w:∀v σ H Q,t' v σ H Q->t v σ H Q):gB X es t':=λpins s σ H v u Q I r q=>h pins s σ H v u Q I r (w v σ H Q q)
theorem E0{i:Nat}{x:Str}(a:X.N.Nodup)(hi:X.N[i]?=some x)(b:Loc X.env.scope x)(c:X.fn x=true\/X.env.scope.names.lookup x=some .local:=by first|exact .inl rfl|exact .inr rfl|assumption):PG X (.Name x pos) (nN X.mg N (gN i)):=
 yk (Ac a hi b c) λv σ H Q q=>by
  obtain⟨A,ι,τ,d,R,S,r,q,k⟩:=q;exact k.here (S.set r) q
theorem E2:gB X [] (qU X.mg N yW):=ym uG λv σ H Q q=>by
 obtain⟨A,ι,τ,ds,R,S,r,q,k⟩:=q;unfold yW at q;split at q
 .exact⟨r,k.here S q⟩
 .exact q.elim
theorem yl(h1:PG X e (nN X.mg N g))(h2:gB X es (qU X.mg N gs))(f:(assignEach (e::es) X.env).map (·.2)=assign e X.env::(assignEach es X.env).map (·.2):=by rfl):gB X (e::es) (qU X.mg N (GP g gs)):=
 ym (ni h1 h2 f) λv σ H Q q=>by
  obtain⟨A,ι,τ,ds,R,S,r,q,k⟩:=q;cases ds with
  |nil=>exact q.elim
  |cons d ds=>
   obtain⟨x,xs,rfl,h,i⟩:=r;refine⟨x,xs,rfl,A,ι,τ,d,_,S,h,q,λa j b l H1 m c a1 n=>?_⟩;exact⟨j,b,a,ds,R,S.to c a1 n,aq.ext c ds xs i,m,k.from c⟩
theorem E1{k n:Nat}(hc:X.calm=true)(h:gB X es (qU X.mg N gs))(hn:(assignEach es X.env).length=n:=by rfl)(b:(assignEach es X.env).findIdx? (·.1)=none:=by rfl):PG X (.Tuple es k pos) (nN X.mg N (gT n gs)):=
 yk (uF hc h hn b) λv σ H Q q=>by
  obtain⟨A,ι,τ,d,R,S,r,q,k⟩:=q;cases d with
  |tup ds=>
   obtain⟨a,xs,rfl,h1,h2⟩:=r;exact⟨a,xs,rfl,bf.of h1,by rw[<-aq.length h2];exact q.1,A,ι,τ,ds,R,S,h2,q.2,k⟩
  |_=>exact q.elim
def uP(i:Nat)(m:aK):cW:=λR τ A=>m τ A λv A1=>R.nx (τ.set i (some v)) A1
theorem E_{i:Nat}{x:Str}{pos':Pos}(b:X.N.Nodup)(hi:X.N[i]?=some x)(c:Loc X.env.scope x)(d:PE X e (up X.mg N m))(f:swapsWith e (some (.Name x pos')) pos.line X.env=pure false:=by rfl)(g:X.fn x=true\/X.env.scope.names.lookup x=some .local:=by first|exact .inl rfl|exact .inr rfl|assumption):
  PS X (.Assign [.Name x pos'] e pos) (b7 X.mg N (uP i m)):=gG (Kz b hi c d f g) λQ σ H q=>by
 obtain⟨A,ι,τ,R,S,q,k⟩:=q;exact⟨A,ι,τ,_,S,q,λv o h H1 u j a l n=>(k.nx.from a).here ((S.next a l).set n) j⟩
def Lb(i j:Nat)(n:cO):cW:=λR τ A=>n τ A λvs A1=>match vs with
 |[v,w]=>R.nx ((τ.set i (some v)).set j (some w)) A1
 |_=>False
theorem yv{i j:Nat}{x y:Str}{a b:Expr}{n:cO}{px py pt:Pos}{kt k2 d}(hc:X.calm=true)(h:X.N.Nodup)(hi:X.N[i]? =some x)(l:X.N[j]? =some y)(e:i≠j)
  (m:X.env.scope.names.lookup x=some .local)(o:X.env.scope.names.lookup y=some .local)(p:PA X [a,b] (eV X.mg N n))
  (r:swappedStores [.Tuple [.Name x px,.Name y py] kt pt] (.Tuple [a,b] k2 d) X.env=pure (some [x,y]))
  (s:swapsWithSole [.Tuple [.Name x px,.Name y py] kt pt] (.Tuple [a,b] k2 d) pos.line X.env=pure false:=by rfl):
  PS X (.Assign [.Tuple [.Name x px,.Name y py] kt pt] (.Tuple [a,b] k2 d) pos) (b7 X.mg N (Lb i j n)):=gG (Kv hc h hi l e m o p r s) λQ σ H q=>by
 obtain⟨A,ι,τ,R,S,q,k⟩:=q
 refine⟨A,ι,τ,_,S,q,λt D u H1 E c g z f=> ?_⟩
 match t,c,f with
 |[v,w],c,f=>
  obtain⟨B,_,rfl,h1,C,_,rfl,h2,h3⟩:=f
  obtain rfl:=h3
  exact⟨B,C,rfl,(k.nx.from g).here (((S.next g z).set h1).set h2) c⟩
 |[],c,_=>exact c.elim
 |[_],c,_=>exact c.elim
 |_::_::_::_,c,_=>exact c.elim
end
abbrev DX:=Str->Ar->Prop
abbrev Ct:=List D->Ar->DK->DX->Prop
def Di(mg:au)(A:Ar)(ι:Io)(H:Hp)(R:DX)(E:XK):Prop:=∀c A' ι' H' C,R c A'->mg c=some (.ref C)->Ext A ι H A' ι' H'->RA mg ι' H' A'->E (.ref C) none H'
def ak(mg:au)(n:Nat)(S:Ct):Sp:=λvs H Q E=>∃A ι ds R RE,ds.length=n/\RA mg ι H A/\aq mg ι A.length H ds vs/\S ds A R RE/\Kt mg A ι H R Q/\Di mg A ι H RE E
def EL(mg:au)(N:En)(R:DX):XK:=λC _ H'=>∃c A' ι',(∃a,C=.ref a/\mg c=some (.ref a))/\Ext N.A N.ι N.H A' ι' H'/\RA mg ι' H' A'/\R c A'
def xU(n:Nat)(S:Ct)(RE:DX)(m:cO):aK:=λτ A R=>m τ A λvs A1=>vs.length=n/\S vs A1 R RE
section
variable{X:Cx}{N:En}{k n:Nat}{x:Str}{ps:List Str}{S:Ct}{RE:DX}{e:Expr}{es:List Expr}{m:cO}{p pos:Pos}
theorem EO(F:aj X.prog X.w X.K X.mg X.base k x ps (ak X.mg n S))(i:ck k X.A)(j:Passes (a_ X.prog X.w) X (EL X.mg N RE))(l:PA X (e::es) (eV X.mg N m))(o:Gl X x:=by rfl)(a:(x==("__debug__":Str))=false:=by decide)
  (r:starEach (e::es) X.env=(false,eval e X.env)::starEach es X.env:=by rfl)(b:(backTo pos (starEach es X.env)).any (·.1)=false:=by rfl):
  PE X (.Call (.Name x p) (e::es) [] pos) (up X.mg N (xU n S RE m)):=cP (JQ F i j l o a r b) λσ H Q q=>by
 obtain⟨A,ι,τ,R,Z,q,k⟩:=q;refine⟨A,ι,τ,_,Z,q,λs t d H1 u g h v y=>?_⟩;show ak X.mg n S (u++[]) H1 Q (EL X.mg N RE);rw[gW];exact⟨t,d,s,R,RE,g.1,v,y,g.2,k.from h,λc z f H2 C B hc D E=>⟨c,z,f,⟨C,rfl,hc⟩,(Z.ex.trans h).trans D,E,B⟩⟩
end
def iN(n:Nat)(ds:List D):bx:=ds.map some++replicate n none
theorem t9:∀(ds:List D) (n i:Nat) (d:D),lk (iN n ds) i=some d->ds[i]?=some d
 |[],n,i,d,h=>by
  rw[pU] at h;simp[iN,List.getElem?_replicate] at h;split at h<;>simp at h
 |x::r,n,0,d,h=>by simpa[iN,lk] using h
 |x::r,n,i+1,d,h=>by simpa using t9 r n i d h
theorem TopD.eN{P:Program}{w:World}{K:Frag}{mg:au}{base:Heap}{x:Str}{st:Stmt}{Nm ps:List Str}{k n:Nat}{S:Ct}(T:TopD K mg x st ps)(Sc:aR Nm ps (aH st))(hn:ps.length=n)(V:ps.length<=Nm.length)
  (g:∀(N:En) (RE:DX) (X:Cx),X.prog=P->X.w=w->X.K=K->X.mg=mg->X.base=base->X.N=Nm->X.calm=true->X.ex=[]->(∃f j A outer s H E,X=bL (a_ P w) P w K mg base Nm x (aH st) f j A outer s H E)->ck k X.A->Raises X (EL X.mg N RE)->Passes (a_ X.prog X.w) X (EL X.mg N RE)->
   ∀ds A R,S ds A R RE->ds.length=n->∃m,cj X (e9 st) (b7 X.mg N m)/\m {nx:=λ_ A'=>R .aM A',rt:=R} (iN (Nm.length - n) ds) A):aj P w K mg base (k+1) x ps (ak mg n S):=by
 refine T.fnX Sc (λD H Q E h=> ?_) λf j A outer s H D Q E F h=> ?_
 .obtain⟨A,ι,ds,R,RE,t,_,o,_⟩:=h
  rw[<-aq.length o,t,hn]
 .obtain⟨p,l,ds,R,RE,t,ra,o,G,y,J⟩:=h
  have B:∀C a H',EL mg ⟨p,l,H⟩ RE C a H'->E C none H':=λC a H' z=>by
   obtain⟨c,A',ι',⟨b,rfl,hc⟩,ex,r,q⟩:=z
   exact J c A' ι' H' b q hc ex r
  obtain⟨m,L,M⟩:=g ⟨p,l,H⟩ RE (bL (a_ P w) P w K mg base Nm x (aH st) f j A outer s H E) rfl rfl rfl rfl rfl rfl rfl rfl ⟨_,_,_,_,_,_,_,rfl⟩ F
   (λpins σ H1 u e h' C args I O z=>AF pins σ H1 u e h' C args I O (B _ _ _ z))
   (λpins σ H1 u e s' I z=>z8 pins σ H1 u e s' I (by
    obtain⟨a,C,H',h1,h2,h3⟩:=z
    exact⟨a,C,H',h1,h2,B _ _ _ h3⟩)) ds p R G t
  have U:=aq.length o
  refine⟨_,L,p,l,_,_,⟨ra,⟨?_,λi d q=> ?_⟩,ra.refl⟩,M,⟨λτ A' ι' σ H' q e r _=>y _ A' ι' H' _ q e r rfl,y,λ_ _ _ _ _ q _ _ _=>q.elim,λ_ _ _ _ _ q _ _ _=>q.elim⟩⟩
  .simp[iN,L2.start]
   omega
  .obtain⟨v,h1,h2⟩:=aq.get o (t9 ds _ i d q)
   refine⟨v,?_,h2⟩
   have hi:=(cT.mp h1).1
   unfold L2.start
   rw[ic (by simpa using hi),dP,h1]
   rfl
abbrev fm:=List D->Ar->DK->Prop
def fN(mg:au)(r:List V->Hp->VK->Prop)(f:fm):Prop:=∀ds A ι H us R Q,RA mg ι H A->aq mg ι A.length H ds us->f ds A R->Kt mg A ι H R Q->r us H Q
def oX(f:fm)(m:cO):aK:=λτ A R=>m τ A λvs A1=>f vs A1 R
section
variable{X:Cx}{N:En}{e:Expr}{es:List Expr}{m:cO}{p pos:Pos}{f:fm}{r:List V->Hp->VK->Prop}{x:Str}{id T:String}
theorem Cm(h:fN X.mg r f){σ:L2.St}{H:Hp}{Q:VK}(q:up X.mg N (oX f m) σ H Q):vc r (eV X.mg N m) σ H Q:=by
 obtain⟨A,ι,τ,R,S,q,k⟩:=q;exact⟨A,ι,τ,_,S,q,λb c a H1 d e g i j=>h b c a H1 d R Q i j e (k.from g)⟩
theorem bO(hc:cV X (.builtin id) r)(hd:fN X.mg r f)(c:X.mg x=none)(d:bootBuiltins x=some (.builtin id))(g:PA X (e::es) (eV X.mg N m))(i:Gl X x:=by rfl)(hn:x≠"__name__":=by decide)(a:(x==("__debug__":Str))=false:=by decide)
 (j:starEach (e::es) X.env=(false,eval e X.env)::starEach es X.env:=by rfl)(b:(backTo pos (starEach es X.env)).any (·.1)=false:=by rfl):PE X (.Call (.Name x p) (e::es) [] pos) (up X.mg N (oX f m)):=cP (z_ hc i c d g hn a j b) λ_ _ _ h=>Cm hd h
theorem jy(hc:cV X (.type T) r)(hd:fN X.mg r f)(c:X.mg x=none)(d:bootBuiltins x=some (.type T))(g:PA X (e::es) (eV X.mg N m))(i:Gl X x:=by rfl)(hn:x≠"__name__":=by decide)(a:(x==("__debug__":Str))=false:=by decide)
 (j:starEach (e::es) X.env=(false,eval e X.env)::starEach es X.env:=by rfl)(b:(backTo pos (starEach es X.env)).any (·.1)=false:=by rfl):PE X (.Call (.Name x p) (e::es) [] pos) (up X.mg N (oX f m)):=cP (JP hc i c d g hn a j b) λ_ _ _ h=>Cm hd h
end
@[irreducible] def pS(r:Nat)(A:Ar)(R:DK):Prop:=match A[r]? with
 |some (.lst xs)=>R (.int xs.length) A
 |some (.dct kvs)=>R (.int kvs.length) A
 |_=>False
def zA:fm:=λvs A R=>match vs with
 |[.tup xs]=>R (.int xs.length) A
 |[.str z]=>z.length<=sizeLine/\R (.int z.length) A
 |[.fl ns]=>R (.int ns.length) A
 |[.ref r]=>pS r A R
 |_=>False
theorem RK.length{mg:au}{ι:Io}{H:Hp}:∀{ds:List (Key×D)} {a:List (Key×V)} {n:Nat},RK mg ι n H ds a->ds.length=a.length
 |[],a,_,h=>by have h':a=[]:=h;rw[h'];rfl
 |d::ds,a,n,h=>by
  obtain⟨x,r,rfl,_,b⟩:=h;simp[RK.length b]
theorem cY{X:Cx}:cV X (.builtin "len") (λxs H Q=>(∃p ys,xs=[.ref p]/\(aZ X.K H p ys\/bf X.K H p ys)/\Q (.int ys.length) H)\/(∃z,xs=[.str z]/\z.length<=sizeLine/\Q (.int z.length) H)\/∃a kvs,xs=[V.ref a]/\H a=some (.dK kvs)/\Q (.int kvs.length) H):=DG.or (DH.or DF)
theorem cH{mg:au}{K:Frag}:fN mg (λxs H Q=>(∃p ys,xs=[.ref p]/\(aZ K H p ys\/bf K H p ys)/\Q (.int ys.length) H)\/(∃z,xs=[.str z]/\z.length<=sizeLine/\Q (.int z.length) H)\/∃a kvs,xs=[V.ref a]/\H a=some (.dK kvs)/\Q (.int kvs.length) H) zA:=by
 intro ds A ι H c R Q ra rs h k;unfold zA at h;split at h
 .obtain⟨_,_,rfl,⟨a,xs,rfl,d,b⟩,rfl⟩:=rs
  exact .inl ⟨a,xs,rfl,.inr (bf.of d),k.here ra h (by rw[aq.length b];rfl)⟩
 .obtain⟨_,_,rfl,rfl,rfl⟩:=rs
  exact .inr (.inl ⟨_,rfl,h.1,k.here ra h.2 rfl⟩)
 .obtain⟨_,_,rfl,⟨a,o,rfl,d⟩,rfl⟩:=rs
  exact .inl ⟨a,_,rfl,.inl (.inl (.inr ⟨o,d⟩)),k.here ra h (by rw[bB];rfl)⟩
 .obtain⟨_,_,rfl,⟨_,rfl⟩,rfl⟩:=rs
  unfold pS at h;split at h
  .rename_i xs e
   obtain⟨c,h1,b⟩:=ra.lst e;exact .inl ⟨_,c,rfl,.inl (aZ.of h1),k.here ra h (by rw[aq.length b];rfl)⟩
  .rename_i xs e
   obtain⟨c,h1,b⟩:=ra.dct e;exact .inr (.inr ⟨_,c,rfl,h1,k.here ra h (by rw[RK.length b];rfl)⟩)
  .exact h.elim
 .exact h.elim
@[irreducible] def N9(r:Nat)(A:Ar)(R:DK):Prop:=match A[r]? with
 |some (.lst xs)=>R (.ref A.length) (A++[.lst xs])
 |_=>False
@[irreducible] def qS(r:Nat)(A:Ar)(R:DK):Prop:=match A[r]? with
 |some (.lst xs)=>R (.tup xs) A
 |_=>False
def Ci:fm:=λvs A R=>match vs with
 |[.tup xs]=>R (.tup xs) A
 |[.ref r]=>qS r A R
 |_=>False
theorem x6{mg:au}{K:Frag}:fN mg (λxs H Q=>∃p ys,xs=[.ref p]/\((aZ K H p ys/\∀l,H l=none->Q (.ref l) (upd H l (.tup ys)))\/(bf K H p ys/\Q (.ref p) H))) Ci:=by
 intro ds A ι H c R Q ra rs h k;unfold Ci at h;split at h
 .obtain⟨_,_,rfl,⟨a,xs,rfl,d,b⟩,rfl⟩:=rs
  exact⟨a,xs,rfl,.inr ⟨bf.of d,k.here ra h ⟨a,xs,rfl,d,b⟩⟩⟩
 .obtain⟨_,_,rfl,⟨_,rfl⟩,rfl⟩:=rs
  unfold qS at h;split at h
  .rename_i xs e
   obtain⟨c,h1,b⟩:=ra.lst e;exact⟨_,c,rfl,.inl ⟨aZ.of h1,λp f=>m6 k ra b h f⟩⟩
  .exact h.elim
 .exact h.elim
def gf:List D->Option (List Bool)
 |[]=>some []
 |.bl b::r=>(gf r).map (b::·)
 |_::_=>none
def gJ:List D->Option (List Int)
 |[]=>some []
 |.int b::r=>(gJ r).map (b::·)
 |_::_=>none
theorem xE{mg:au}{ι:Io}{n:Nat}{H:Hp}:∀{ds:List D} {a:List V} {bs:List Bool},gf ds=some bs->aq mg ι n H ds a->a=bs.map V.bl
 |[],a,bs,h,r=>by cases h;exact r
 |d::ds,a,bs,h,r=>by
  obtain⟨x,r',rfl,h1,h2⟩:=r;cases d with
  |bl b=>
   cases q:gf ds with
   |none=>simp[gf,q] at h
   |some l=>
    simp[gf,q] at h;subst h;rw[xE q h2];cases h1;rfl
  |_=>simp[gf] at h
theorem zh{mg:au}{ι:Io}{n:Nat}{H:Hp}:∀{ds:List D} {a:List V} {bs:List Int},gJ ds=some bs->aq mg ι n H ds a->a=bs.map V.int
 |[],a,bs,h,r=>by cases h;exact r
 |d::ds,a,bs,h,r=>by
  obtain⟨x,r',rfl,h1,h2⟩:=r;cases d with
  |int b=>
   cases q:gJ ds with
   |none=>simp[gJ,q] at h
   |some l=>
    simp[gJ,q] at h;subst h;rw[zh q h2];cases h1;rfl
  |_=>simp[gJ] at h
@[irreducible] def allR(r:Nat)(A:Ar)(R:DK):Prop:=match A[r]? with
 |some (.lst xs)=>(match gf xs with
  |some bs=>R (.bl (bs.all id)) A
  |none=>False)
 |_=>False
def xq:fm:=λvs A R=>match vs with
 |[.ref r]=>allR r A R
 |_=>False
theorem mz{mg:au}{K:Frag}:fN mg (λxs H Q=>∃(p:Addr) (bs:List Bool),xs=[.ref p]/\aZ K H p (bs.map V.bl)/\Q (.bl (bs.all id)) H) xq:=by
 intro ds A ι H a R Q ra rs h k;unfold xq at h;split at h
 .obtain⟨_,_,rfl,⟨_,rfl⟩,rfl⟩:=rs
  unfold allR at h;split at h
  .rename_i xs e
   split at h
   .rename_i bs b
    obtain⟨a,h1,c⟩:=ra.lst e;exact⟨_,bs,rfl,aZ.of (by rw[h1,xE b c]),k.here ra h rfl⟩
   .exact h.elim
  .exact h.elim
 .exact h.elim
@[irreducible] def qM(r:Nat)(A:Ar)(R:DK):Prop:=match A[r]? with
 |some (.lst xs)=>(match gJ xs with
  |some ns=>(∀n∈ns,0<=n/\n<=2 ^ 40)/\ns.length<=1000/\R (.int ns.sum) A
  |none=>False)
 |_=>False
def B8:fm:=λvs A R=>match vs with
 |[.ref r]=>qM r A R
 |_=>False
theorem EN{mg:au}{K:Frag}:fN mg (λxs H Q=>∃(p:Addr) (ns:List Int),xs=[.ref p]/\aZ K H p (ns.map V.int)/\(∀n∈ns,0<=n/\n<=2 ^ 40)/\ns.length<=1000/\Q (.int ns.sum) H) B8:=by
 intro ds A ι H a R Q ra rs h k;unfold B8 at h;split at h
 .obtain⟨_,_,rfl,⟨_,rfl⟩,rfl⟩:=rs
  unfold qM at h;split at h
  .rename_i xs e
   split at h
   .rename_i bs b
    obtain⟨a,h1,c⟩:=ra.lst e;exact⟨_,bs,rfl,aZ.of (by rw[h1,zh b c]),h.1,h.2.1,k.here ra h.2.2 rfl⟩
   .exact h.elim
  .exact h.elim
 .exact h.elim
def gQ(A:Ar):D->Option String
 |.aM=>some "NoneType"
 |.bl _=>some "bool"
 |.int _=>some "int"
 |.str _=>some "str"
 |.tup _=>some "tuple"
 |.fl _=>some "list"
 |.exc _=>none
 |.ref r=>match A[r]? with
  |some (.lst _)=>some "list"
  |some (.dct _)=>some "dict"
  |_=>none
def ja(t c:String):Bool:=t==c||(t=="bool"&&c=="int")
def Eg(c:String)(m:aK):aK:=λτ A R=>m τ A λx A1=>match gQ A1 x with
 |some t=>R (.bl (ja t c)) A1
 |none=>False
def tys:List String:=["NoneType","bool","int","str","tuple","list","dict"]
theorem Nc{A:Ar}{d:D}{t:String}(h:gQ A d=some t):t∈tys:=by
 cases d with
 |ref r=>
  unfold gQ at h;simp only at h;split at h<;>first|(cases h;decide)|cases h
 |exc c=>cases h
 |_=>cases h;decide
theorem RA.ty{mg:au}{K:Frag}{A:Ar}{ι:Io}{H:Hp}(ra:RA mg ι H A){d:D}{v:V}{t:String}(h:gQ A d=some t)(r:RV mg ι A.length H d v):l5 K H v (.type t):=by
 cases d with
 |aM=>cases h;cases r;exact .of .aM
 |bl b=>cases h;cases r;exact .of (.bl b)
 |int b=>cases h;cases r;exact .of (.int b)
 |str b=>cases h;cases r;exact .of (.str b)
 |tup ds=>cases h;obtain⟨a,xs,rfl,e,_⟩:=r;exact .of (.tup e)
 |fl ns=>cases h;obtain⟨a,o,rfl,e⟩:=r;exact .of (.b5 e)
 |exc c=>cases h
 |ref q=>
  obtain⟨_,rfl⟩:=r;unfold gQ at h;simp only at h;split at h
  .rename_i xs e
   cases h;obtain⟨f,h1,_⟩:=ra.lst e;exact .of (.lst h1)
  .rename_i xs e
   cases h;obtain⟨f,h1,_⟩:=ra.dct e;exact .of (.dK h1)
  .cases h
section
variable{X:Cx}{N:En}{e:Expr}{es:List Expr}{m:aK}{p p2 pos:Pos}{x:Str}{c:String}
theorem eG(hk:∀t∈tys,kitOne X.K (.type t) (.type c)=some (ja t c))(n:X.mg "isinstance"=none)(b:X.mg x=none)(d:bootBuiltins x=some (.type c))(o:PE X e (up X.mg N m))(r:Gl X "isinstance":=by rfl)(f:Gl X x:=by rfl)(hn:x≠"__name__":=by decide)(g:(x==("__debug__":Str))=false:=by decide)
  (h:starEach [e,.Name x p2] X.env=[(false,eval e X.env),(false,eval (.Name x p2) X.env)]:=by rfl):
  PE X (.Call (.Name "isinstance" p) [e,.Name x p2] [] pos) (up X.mg N (Eg c m)):=by
 have s:PE X (.Name x p2) (tC (.ty c)):=JN f b d rfl hn g;refine cP (z_ DE r n boot_isinstance (uC o (uC s z3 rfl) (by rw[h];rfl)) (by decide) (by decide) (by rw[h];rfl) rfl) λσ H Q q=>?_;obtain⟨A,ι,τ,R,S,q,k⟩:=q;refine⟨A,ι,τ,_,S,q,λv i w H1 u a y j z=>?_⟩;have a:(match gQ i v with|some t=>R (.bl (ja t c)) i|none=>False):=a;split at a
 .rename_i t l
  exact⟨u,c,.type t,ja t c,rfl,j.ty l z,hk t (Nc l),(k.from y).here j a rfl⟩
 .exact a.elim
end
abbrev f7:=D->List D->Ar->DK->Prop
def iU(mg:au)(K:Frag)(T:String)(r:V->List V->Hp->VK->Prop)(f:f7):Prop:=∀x ds A ι H u us R Q,RA mg ι H A->RV mg ι A.length H x u->aq mg ι A.length H ds us->f x ds A R->Kt mg A ι H R Q->r u us H Q
def jC(A:Ar):D->Bool
 |.ref r=>match A[r]? with
  |some (.lst _)=>true
  |_=>false
 |_=>false
def Em(f:f7)(mo:aK)(m:cO):aK:=λτ A R=>mo τ A λx A1=>jC A1 x=true/\m τ A1 λvs A2=>f x vs A2 R
theorem RA.jC{mg:au}{K:Frag}{A:Ar}{ι:Io}{H:Hp}(ra:RA mg ι H A){d:D}{v:V}(h:jC A d=true)(r:RV mg ι A.length H d v):vv K "list" v H:=by
 cases d with
 |ref q=>
  obtain⟨_,rfl⟩:=r;unfold DP.jC at h;simp only at h;split at h
  .rename_i xs e
   obtain⟨a,h1,_⟩:=ra.lst e;exact .inl ⟨rfl,a,aZ.of h1⟩
  .cases h
 |_=>cases h
section
variable{X:Cx}{N:En}{e o:Expr}{es:List Expr}{mo:aK}{m:cO}{apos cpos:Pos}{f:f7}{r:V->List V->Hp->VK->Prop}{name:Str}{id:String}
theorem o4(t:PlainAttrs "list")(slot:Slot "list" name id)(g:typeOf (.builtin id)=pure (.type "method_descriptor"))(v:rR X id r)(hd:iU X.mg X.K "list" r f)(w:PE X o (up X.mg N mo))(y:PA X (e::es) (eV X.mg N m))
  (b:attributeBase o name X.env (eval o X.env)=eval o X.env:=by rfl)
  (d:((backTo cpos (starEach (e::es) X.env)).all (λx=> !x.1)&&(backToKw cpos (keywordEach [] X.env)).all (λx=>x.1.isSome)
   &&decide ((e::es).length+([]:List Keyword).length+(if ([]:List Keyword).isEmpty then 0 else 1)<30))=true:=by rfl)
  (c:(apos.endLine==cpos.line)=true:=by rfl)(z:starEach (e::es) X.env=(false,eval e X.env)::starEach es X.env:=by rfl)(a:(backTo cpos (starEach es X.env)).any (·.1)=false:=by rfl):
  PE X (.Call (.Attribute o name apos) (e::es) [] cpos) (up X.mg N (Em f mo m)):=cP (z9 t slot g v w y b d c z a) λσ H Q q=>by
 obtain⟨A,ι,τ,R,S,q,k⟩:=q
 refine⟨A,ι,τ,_,S,q,λx B h H1 u j l n p=> ?_⟩
 refine⟨n.jC j.1 p,B,h,τ,_,S.next l n,j.2,λys C i H2 D E s F v2=> ?_⟩
 exact hd x ys C i H2 u D R Q F (RV.ext s x u p) v2 E (k.from (l.trans s))
end
theorem KP{mg:au}{A:Ar}{ι:Io}{H:Hp}{R:DK}{Q:VK}{ds es:List D}{xs ys:List V}{q:Nat}{d:D}{v:V}(k:Kt mg A ι H R Q)(r:RA mg ι H A)(a:A[q]?=some (.lst ds))(b:H (ι q)=some (.lst xs))(h:aq mg ι A.length H es ys)
  (c:R d (A.set q (.lst es)))(hd:∀H',RV mg ι A.length H' d v):Q v (upd H (ι q) (.lst ys)):=by
 have E:Ext A ι H (A.set q (.lst es)) ι (upd H (ι q) (.lst ys)):=r.yL (cT.mp a).1;obtain⟨e,f⟩:=r.put (c':=.lst es) (o:=.lst ys) a b rfl ⟨ys,fX,by simpa using aq.ext E es ys h⟩;exact k _ _ _ _ _ c f e (by simpa using hd _)
@[irreducible] def oE(r:Nat)(y:D)(A:Ar)(R:DK):Prop:=match A[r]? with
 |some (.lst xs)=>xs.length<sizeLine/\R .aM (A.set r (.lst (xs++[y])))
 |_=>False
def xr:f7:=λx vs A R=>match x,vs with
 |.ref r,[y]=>oE r y A R
 |_,_=>False
theorem oY{mg:au}{K:Frag}:iU mg K "list" Ak xr:=by
 intro x ds A ι H u d R Q ra b rs h k;unfold xr at h;split at h
 .obtain⟨_,rfl⟩:=b
  obtain⟨v,_,rfl,c,rfl⟩:=rs;unfold oE at h;split at h
  .rename_i xs e
   obtain⟨ws,h1,a⟩:=ra.lst e;exact⟨_,ws,v,rfl,rfl,h1,by rw[<-aq.length a];exact h.1,KP k ra e h1 (a.app (es:=[_]) (ws:=[v]) ⟨v,[],rfl,c,rfl⟩) h.2 λ_=>rfl⟩
  .exact h.elim
 .exact h.elim
def Lc(RE:DX)(c:Str)(m:cO):cW:=λ_ τ A=>m τ A λvs A1=>vs.length<=sizeLine/\RE c A1
theorem mH{X:Cx}{N:En}{RE:DX}{x:Str}{C:Addr}{e:Expr}{m:cO}{np cpos pos:Pos}(f:Raises X (EL X.mg N RE))(hc:X.calm=true)(c:X.mg x=some (.ref C))(g:excIn X.K C jO "ValueError.__new__"=true)(h:PA X [e] (eV X.mg N m))(i:Gl X x:=by rfl)(a:(x==("__debug__":Str))=false:=by decide)
  (j:starEach [e] X.env=[(false,eval e X.env)]:=by rfl):PS X (.Raise (some (.Call (.Name x np) [e] [] cpos)) none pos) (b7 X.mg N (Lc RE x m)):=gG (Kw f hc c g h i a j) λQ σ H q=>by
 obtain⟨A,ι,τ,R,S,q,k⟩:=q;exact⟨A,ι,τ,_,S,q,λr l b H1 s d n o p=>⟨by rw[<-aq.length p];exact d.1,x,l,b,⟨C,rfl,c⟩,S.ex.trans n,o,d.2⟩⟩
def gj:D->Bool
 |.int _|.str _=>true
 |_=>false
def mK:D->D->Bool
 |.int i,.int j=>decide (i=j)
 |.str a,.str b=>decide (a=b)
 |_,_=>false
def kQ(x:D)(xs:List D):Bool:=xs.any λy=>mK y x
section
variable{mg:au}{K:Frag}{A:Ar}{ι:Io}{H:Hp}{n:Nat}
theorem tG{d:D}{v:V}(h:gj d=true)(r:RV mg ι n H d v):gH v=true:=by
 cases d with
 |int i=>cases r;rfl
 |str i=>cases r;rfl
 |_=>cases h
theorem Fq{d e:D}{u v:V}(h1:gj d=true)(h2:gj e=true)(b:RV mg ι n H d u)(a:RV mg ι n H e v):fP u v=mK d e:=by
 cases d with
 |int i=>
  cases b;cases e with
  |int j=>cases a;simp[fP,mK,Bool.beq_eq_decide_eq]
  |str j=>cases a;rfl
  |_=>cases h2
 |str i=>
  cases b;cases e with
  |int j=>cases a;rfl
  |str j=>cases a;simp[fP,mK,Bool.beq_eq_decide_eq]
  |_=>cases h2
 |_=>cases h1
theorem tO{x:D}{v:V}(b:gj x=true)(c:RV mg ι n H x v):∀{ds:List D} {a:List V},ds.all gj=true->aq mg ι n H ds a->pJ v a=kQ x ds/\a.all gH=true
 |[],a,_,r=>by cases (show a=[] from r);exact⟨rfl,rfl⟩
 |d::ds,a,h,r=>by
  obtain⟨y,r',rfl,h1,h2⟩:=r;have h':gj d=true/\ds.all gj=true:=by simpa using h
  obtain⟨g1,g2⟩:=tO b c h'.2 h2;constructor
  .show(fP y v||pJ v r')=(mK d x||kQ x ds)
   rw[Fq h'.1 b h1 c,g1]
  .simp[tG h'.1 h1,g2]
end
abbrev Aq(neg:Bool):R2:=λx y H Q=>∃a o,y=.ref a/\lV H a x o/\Q (.bl (if neg then !o.isSome else o.isSome)) H
theorem Jg{X:Cx}(e:X.A.units+64<cLine):aV X (compareOp .NotIn) (Aq true):=by
 intro pins s σ H x y v u Q I b c h;obtain⟨a,o,rfl,g,q⟩:=h;cases c;exact EI (by omega) I g b λf d=>⟨.bl (!o.isSome),H,d,rfl,q⟩
@[irreducible] def inR(neg:Bool)(x:D)(r:Nat)(A:Ar)(R:DK):Prop:=match A[r]? with
 |some (.lst xs)=>gj x=true/\xs.all gj=true/\R (.bl (if neg then !kQ x xs else kQ x xs)) A
 |some (.dct kvs)=>(match jb x with
  |some k=>R (.bl (if neg then !(d9 kvs k).isSome else (d9 kvs k).isSome)) A
  |none=>False)
 |_=>False
def inD(neg:Bool):dh:=λx y A R=>match y with
 |.tup xs=>gj x=true/\xs.all gj=true/\R (.bl (if neg then !kQ x xs else kQ x xs)) A
 |.ref r=>inR neg x r A R
 |_=>False
theorem EA{mg:au}{K:Frag}(neg:Bool):cX mg (λx y H Q=>Ao K neg x y H Q\/Aq neg x y H Q) (inD neg):=by
 intro x y A ι H u v R Q ra c i h k;unfold inD at h;split at h
 .obtain⟨a,xs,rfl,j,f⟩:=i
  obtain⟨g1,g2⟩:=tO h.1 c h.2.1 f;exact .inl ⟨a,xs,rfl,.inr (bf.of j),tG h.1 c,g2,by rw[g1];exact k.here ra h.2.2 rfl⟩
 .obtain⟨_,rfl⟩:=i
  unfold inR at h;split at h
  .rename_i xs e
   obtain⟨g,h1,f⟩:=ra.lst e;obtain⟨g1,g2⟩:=tO h.1 c h.2.1 f;exact .inl ⟨_,g,rfl,.inl (aZ.of h1),tG h.1 c,g2,by rw[g1];exact k.here ra h.2.2 rfl⟩
  .rename_i kvs e
   obtain⟨g,h1,f⟩:=ra.dct e;split at h
   .rename_i b l
    cases pO l c;obtain⟨g1,g2⟩:=RK.get (k:=b) f;refine .inr ⟨_,dM g b,rfl,.inl ⟨g,b,.inl h1,rfl,rfl⟩,?_⟩;have m:(dM g b).isSome=(d9 kvs b).isSome:=by
     cases q:d9 kvs b with
     |none=>rw[g2 q];rfl
     |some d=>obtain⟨z,n,_⟩:=g1 d q;rw[n];rfl
    rw[m];exact k.here ra h rfl
   .exact h.elim
  .exact h.elim
 .exact h.elim
section
variable{X:Cx}{N:En}{pos:Pos}{a b c:Expr}{ma mb mc:aK}{x:Str}
theorem vr(i:Nat)(b:X.N[i]?=some x:=by rfl)(c:kh X.env.scope x:=by first|exact Or.inl rfl|exact Or.inr (Or.inl rfl)|exact Or.inr (Or.inr rfl))(hd:(x==("__debug__":Str))=false:=by decide)
 (a:(x==("__classdict__":Str))=false:=by decide):PE X (.Name x pos) (up X.mg N (mw i)):=EX b c hd a
theorem i_(c:X.A.units+64<cLine)(d:PE X a (up X.mg N ma))(e:PE X b (up X.mg N mb)):PE X (.Compare a [.Eq] [b] pos) (up X.mg N (dI kI ma mb)):=ya (zU c) xW d e (m7 _)
theorem cJ(c:X.A.units+64<cLine)(d:PE X a (up X.mg N ma))(e:PE X b (up X.mg N mb)):PT X (.Compare a [.Eq] [b] pos) (b8 X.mg N (gE (dI kI ma mb))):=mJ (zU c) xW d e (m7 _)
theorem fE(c:X.A.units+64<cLine)(d:PE X a (up X.mg N ma))(e:PE X b (up X.mg N mb)):PT X (.Compare a [.NotEq] [b] pos) (b8 X.mg N (gE (dI uw ma mb))):=mJ (Jf c) EH d e (m7 _)
theorem vh(c:PE X a (up X.mg N ma))(d:PE X b (up X.mg N mb)):PT X (.Compare a [.Lt] [b] pos) (b8 X.mg N (gE (dI uc ma mb))):=mJ Je EF c d (m7 _)
theorem MW(c:PE X a (up X.mg N ma))(d:PE X b (up X.mg N mb)):PT X (.Compare a [.Gt] [b] pos) (b8 X.mg N (gE (dI yY ma mb))):=mJ Jv Ez c d (m7 _)
theorem MX(c:X.A.units+64<cLine)(d:PE X a (up X.mg N ma))(e:PE X b (up X.mg N mb))(f:behindInMarks .NotIn b=false:=by rfl):PT X (.Compare a [.NotIn] [b] pos) (b8 X.mg N (gE (dI (inD true) ma mb))):=mJ (JF.or (Jg c)) (EA true) d e f
theorem o_(d:PE X a (up X.mg N ma))(e:PE X b (up X.mg N mb))(hc:PE X c (up X.mg N mc))(f:lastMarks [.LtE,.LtE] [b,c]=false:=by with_unfolding_all rfl):PE X (.Compare a [.LtE,.LtE] [b,c] pos) (up X.mg N (mu kY kY ma mb mc)):=ER p9 p9 oZ oZ d e hc f
theorem vg(d:PE X a (up X.mg N ma))(e:PE X b (up X.mg N mb))(hc:PE X c (up X.mg N mc))(f:lastMarks [.LtE,.LtE] [b,c]=false:=by with_unfolding_all rfl):PT X (.Compare a [.LtE,.LtE] [b,c] pos) (b8 X.mg N (gE (mu kY kY ma mb mc))):=Fc p9 p9 oZ oZ d e hc f
end
theorem eN{P:Program}{w:World}{K:Frag}{mg:au}{base:Heap}{x:Str}{st:Stmt}{Nm ps:List Str}{k n:Nat}{S:Ct}(T:TopD K mg x st ps)(Sc:aR Nm ps (aH st))(hn:ps.length=n)(c:ps.length<=Nm.length)
  (b:∀(N:En) (RE:DX) (f:Addr) (a:Value) (B:Around) (outer:List Env) (s:Shared) (H:Hp) (E:XK),ck k (bL (a_ P w) P w K mg base Nm x (aH st) f a B outer s H E).A->
   Raises (bL (a_ P w) P w K mg base Nm x (aH st) f a B outer s H E) (EL mg N RE)->Passes (a_ P w) (bL (a_ P w) P w K mg base Nm x (aH st) f a B outer s H E) (EL mg N RE)->
   ∀ds A R,S ds A R RE->ds.length=n->∃m,cj (bL (a_ P w) P w K mg base Nm x (aH st) f a B outer s H E) (e9 st) (b7 mg N m)/\m {nx:=λ_ A'=>R .aM A',rt:=R} (iN (Nm.length - n) ds) A):aj P w K mg base (k+1) x ps (ak mg n S):=by
 refine TopD.eN T Sc hn c λN RE X _ _ _ _ _ _ _ _ d e g i ds A R h j=>?_;obtain⟨f,a,B,outer,s,H,E,rfl⟩:=d;exact b N RE f a B outer s H E e g i ds A R h j
def Lh(c:di)(b:cW):cW:=λR τ A=>∃W:Nat->bx->Ar->Prop,(∃n,W n τ A)/\∀n τ A,W n τ A->c τ A λk A1=>cond k (∃Nx:bx->Ar->Prop,(∀bW A',Nx bW A'->∃n',n'<n/\W n' bW A')/\b {R with nx:=Nx,ct:=Nx,bk:=R.nx} τ A1) (R.nx τ A1)
section
variable{X:Cx}{N:En}{pos:Pos}{c:Expr}{body:List Stmt}{tc:di}{tb:cW}
theorem Fb(y:PassesOwn (model X.prog X.w) X.A X.env X.xe)(hc:PT X c (b8 X.mg N tc))(B:cj X body (b7 X.mg N tb)):PS X (.While c body [] pos) (b7 X.mg N (Lh tc tb)):=gG (KA y hc B) λQ σ H q=>by
 obtain⟨A,ι,τ,R,S,⟨W,⟨n,C⟩,turn⟩,k⟩:=q;refine⟨λn σ' H'=>∃A' ι' bW,cC X.mg N A' ι' bW σ' H'/\Ext A ι H A' ι' H'/\W n bW A',⟨n,A,ι,τ,S,S.ra.refl,C⟩,?_⟩;rintro m D H1 ⟨x,o,d,g,h,E⟩;refine⟨x,o,d,_,g,turn m d x E,λb F p H2 j a l=>?_⟩;cases b with
 |true=>
  rw[ao rfl];obtain⟨G,I,j⟩:=j;refine⟨λσ' H'=>∃A' ι' bW,cC X.mg N A' ι' bW σ' H'/\Ext A ι H A' ι' H'/\G bW A',λσ' H' ⟨A',ι',bW,J,K,z⟩=>?_,?_⟩
  .obtain⟨L,M,O⟩:=I bW A' z
   exact⟨L,M,A',ι',bW,J,K,O⟩
  .refine⟨F,p,d,_,g.next a l,j,⟨?_,k.rt.from (h.trans a),k.nx.from (h.trans a),?_⟩⟩
   .exact λe r f s P t i u v=>⟨r,f,e,(g.next a l).to i u v,(h.trans a).trans i,t⟩
   .exact λe r f s P t i u v=>⟨r,f,e,(g.next a l).to i u v,(h.trans a).trans i,t⟩
 |false=>
  rw[av bR];exact(k.nx.from (h.trans a)).here (g.next a l) j
end
structure lY(mg:au)(A0:Ar)(Cz:Io)(H0:Hp)(J:It)(items:List D)(dj:Ar->Prop):Prop where
 go:∀(i:Nat) d A ι H,items[i]? =some d->Ext A0 Cz H0 A ι H->RA mg ι H A->dj A->J.go i H/\∀x H',J.qX i H x H'->Ext A ι H A ι H'/\RA mg ι H' A/\RV mg ι A.length H' d x
 stop:∀A ι H,Ext A0 Cz H0 A ι H->RA mg ι H A->dj A->J.stop items.length H
abbrev iT:=bx->Ar->(List D->(Ar->Prop)->Ar->Prop)->Prop
def lB(mg:au)(N:En)(m:iT):TI:=λσ H Q=>∃A ι τ R,cC mg N A ι τ σ H/\m τ A R/\∀items dj A' ι' H' J,R items dj A'->Ext A ι H A' ι' H'->RA mg ι' H' A'->lY mg A' ι' H' J items dj->Q J H'
theorem yo{X:Cx}{tg e:Expr}{t t':TI}(h:PI X tg e t)(w:∀σ H Q,t' σ H Q->t σ H Q):PI X tg e t':=λpins s σ H Q I q=>h pins s σ H Q I (w σ H Q q)
section
variable{mg:au}{K:Frag}{A:Ar}{ι:Io}{H:Hp}
theorem HL{a:Addr}{ds:List D}{xs:List V}(f:H a=some (.tup xs))(g:aq mg ι A.length H ds xs):lY mg A ι H (rQ K a) ds (λ_=>True) where
 go:=λi d h c H1 hd e r _=>by
  have b:=e.fix rfl f;obtain⟨v,h1,h2⟩:=aq.get (aq.ext e ds xs g) hd;refine⟨⟨xs,v,bf.of b,h1⟩,λx H' y=>?_⟩;obtain⟨rfl,y⟩:=y;have:=y xs (bf.of b);rw[h1] at this;cases this;exact⟨r.refl,r,h2⟩
 stop:=λh c H1 e r _=>⟨xs,bf.of (e.fix rfl f),by rw[aq.length g];exact aI _⟩
theorem HH{a:Addr}{o:Obj}{ns:List Int}(f:H a=some (.b5 o (.lst (ns.map V.int)))):lY mg A ι H (om K a) (ns.map D.int) (λ_=>True) where
 go:=λi d g b H1 hd e r _=>by
  have c:aZ K H1 a (ns.map V.int):=.inl (.inr ⟨o,e.fix rfl f⟩);obtain⟨v,h1,h2⟩:=aq.get (aq.ints (mg:=mg) (ι:=b) (H:=H1) ns (n:=g.length)) hd;refine⟨⟨_,v,c,h1⟩,λx H' y=>?_⟩;obtain⟨rfl,y⟩:=y;have:=y _ c;rw[h1] at this;cases this;exact⟨r.refl,r,h2⟩
 stop:=λg b H1 e r _=>⟨_,.inl (.inr ⟨o,e.fix rfl f⟩),by simp⟩
theorem HJ{q:Nat}{ds:List D}(b:q<A.length):lY mg A ι H (om K (ι q)) ds (λA'=>A'[q]?=some (.lst ds)) where
 go:=λi d c a H1 hd e r hc=>by
  obtain⟨xs,h1,h2⟩:=r.lst hc;rw[e.ag q b] at h1;obtain⟨v,h3,f⟩:=aq.get h2 hd;refine⟨⟨xs,v,aZ.of h1,h3⟩,λx H' y=>?_⟩;obtain⟨rfl,y⟩:=y;have:=y xs (aZ.of h1);rw[h3] at this;cases this;exact⟨r.refl,r,f⟩
 stop:=λc a H1 e r hc=>by
  obtain⟨xs,h1,h2⟩:=r.lst hc;rw[e.ag q b] at h1;exact⟨xs,aZ.of h1,by rw[aq.length h2];exact aI _⟩
def cR(z:Str):List D:=z.cps.toList.map λc=>D.str ⟨#[c]⟩
theorem HK{z:Str}:lY mg A ι H (rP z) (cR z) (λ_=>True) where
 go:=λi d b a H1 hd e r _=>by
  unfold cR at hd;rw[dP] at hd;cases q:z.cps.toList[i]? with
  |none=>rw[q] at hd;cases hd
  |some j=>
   rw[q] at hd;cases hd;have hi:=(cT.mp q).1;refine⟨show i<z.cps.size by simpa using hi,λx H' y=>?_⟩;obtain⟨rfl,c,hc,rfl⟩:=y;have:z.cps.toList[i]?=some c:=by simpa using hc
   rw[q] at this;cases this;exact⟨r.refl,r,rfl⟩
 stop:=λb a H1 e r _=>by
  show _=_;simp[cR]
end
def G5(K:Frag)(tl:TE):TI:=λσ H R=>tl σ H λx H1=>(∃a,x=.ref a/\(∃xs,aZ K H1 a xs)/\R (om K a) H1)\/(∃a,x=.ref a/\(∃xs,bf K H1 a xs)/\R (rQ K a) H1)
theorem J8{X:Cx}{tg l:Expr}{tl:TE}(j:PE X l tl):PI X tg l (G5 X.K tl):=by
 intro pins s σ H R I h;refine aJ (j pins s σ H _ I h) λv c ⟨x,H1,d,i,k⟩=>?_;rcases k with⟨a,e,⟨xs,f⟩,q⟩|⟨a,e,⟨xs,f⟩,q⟩
 .subst e
  cases i;obtain⟨its,m,p,n⟩:=d.list f;refine nW p.isList ?_;refine⟨c.heap.objs.size,[c.heap.objs.size],_,_,H1,rfl,d.kept (t':=c.toks) λb o e=>bw _ e,M6 a _,⟨_,bK _ rfl,rfl,rfl⟩,λb g=>?_,q⟩;have e:b=c.heap.objs.size:=by simpa using g
  subst e;exact d.tK (aI _) (d.hok.fresh (aI _))
 .subst e
  cases i;obtain⟨its,m,p,n⟩:=d.tuple f;refine wpAny_pyIter_tuple (show c.heap.IsTuple a its.toArray from p) ?_;refine⟨c.heap.objs.size,[c.heap.objs.size],_,_,H1,rfl,d.kept (t':=c.toks) λb o e=>bw _ e,M9 a _,⟨_,bK _ rfl,rfl,rfl⟩,λb g=>?_,q⟩;have e:b=c.heap.objs.size:=by simpa using g
  subst e;exact d.tK (aI _) (d.hok.fresh (aI _))
@[irreducible] def itR(r:Nat)(A:Ar)(R:List D->(Ar->Prop)->Ar->Prop):Prop:=match A[r]? with
 |some (.lst xs)=>R xs (λA'=>A'[r]?=some (.lst xs)) A
 |_=>False
def G4(m:aK):iT:=λτ A R=>m τ A λx A1=>match x with
 |.tup xs=>R xs (λ_=>True) A1
 |.fl ns=>R (ns.map .int) (λ_=>True) A1
 |.ref r=>itR r A1 R
 |_=>False
def G7(m:aK):iT:=λτ A R=>m τ A λx A1=>match x with
 |.str z=>R (cR z) (λ_=>True) A1
 |_=>False
section
variable{X:Cx}{N:En}{pos p:Pos}{tg e a b:Expr}{m:aK}{n:cO}{nm:Str}{px:Pos}
theorem iz(i:PE X e (up X.mg N m)):PI X tg e (lB X.mg N (G4 m)):=yo (J8 i) λσ H Q q=>by
 obtain⟨A,ι,τ,R,S,q,k⟩:=q;refine⟨A,ι,τ,_,S,q,λx d c H1 u a g f h=>?_⟩;cases x with
 |tup ds=>
  obtain⟨b,xs,rfl,h1,h2⟩:=h;exact .inr ⟨b,rfl,⟨xs,bf.of h1⟩,k ds _ d c H1 _ a g f (HL h1 h2)⟩
 |fl ns=>
  obtain⟨b,o,rfl,h1⟩:=h;exact .inl ⟨b,rfl,⟨_,.inl (.inr ⟨o,h1⟩)⟩,k _ _ d c H1 _ a g f (HH h1)⟩
 |ref r=>
  obtain⟨j,rfl⟩:=h;have a:itR r d R:=a;unfold itR at a;split at a
  .rename_i xs e
   obtain⟨l,h1,_⟩:=f.lst e;exact .inl ⟨_,rfl,⟨l,aZ.of h1⟩,k _ _ d c H1 _ a g f (HJ j)⟩
  .exact a.elim
 |_=>exact a.elim
theorem sU(c:PE X e (up X.mg N m)):PI X (.Name nm px) e (lB X.mg N (G7 m)):=yo (J9 c) λσ H Q q=>by
 obtain⟨A,ι,τ,R,S,q,k⟩:=q;refine⟨A,ι,τ,_,S,q,λx d a H1 u b f g h=>?_⟩;cases x with
 |str z=>exact⟨z,h,k _ _ d a H1 _ b f g HK⟩
 |_=>exact b.elim
end
def kD(dj:Ar->Prop)(g:ig)(b:cW)(R:lU):List D->bx->Ar->Prop
 |[],τ,A=>dj A/\R.nx τ A
 |x::xs,τ,A=>dj A/\g x τ A λvQ A1=>b {R with nx:=kD dj g b R xs,ct:=kD dj g b R xs,bk:=R.nx} vQ A1
def K7(it:iT)(g:ig)(b:cW):cW:=λR τ A=>it τ A λitems dj A1=>kD dj g b R items τ A1
theorem E9{X:Cx}{N:En}{pos:Pos}{tg iter:Expr}{body:List Stmt}{it:iT}{g:ig}{tb:cW}(T:PassesOwn (model X.prog X.w) X.A X.env X.xe)(hc:X.calm=true)(hi:PI X tg iter (lB X.mg N it))(U:PG X tg (nN X.mg N g))(V:cj X body (b7 X.mg N tb))
  (W:∀x,foldedSetIterable iter X.env x=pure x:=by intro _;rfl):PS X (.For tg iter body [] pos) (b7 X.mg N (K7 it g tb)):=gG (Ks T hc hi U V W) λQ σ H q=>by
 obtain⟨A,ι,τ,R,S,q,k⟩:=q;refine⟨A,ι,τ,_,S,q,λitems n v b H1 J Y s O P=>?_⟩;have Z:=S.next s O;refine⟨λi m σ' H'=>m=items.length - i/\i<=items.length/\∃A' ι' bW,cC X.mg N A' ι' bW σ' H'/\Ext v b H1 A' ι' H'/\kD n g tb R (items.drop i) bW A',⟨_,rfl,c5 _,v,b,τ,Z,O.refl,by simpa using Y⟩,?_⟩;rintro i m σ2 H2 ⟨rfl,hi,B,c,C,d,f,h⟩;by_cases D:i<items.length
 .right
  have hd:items.drop i=items[i]::items.drop (i+1):=by rw[jY D]
  rw[hd] at h;obtain⟨o,h⟩:=h;obtain⟨g1,g2⟩:=P.go i items[i] B c H2 (by rw[bS D]) f d.ra o;refine⟨g1,λσ' H'=>∃A' ι' bW,cC X.mg N A' ι' bW σ' H'/\Ext v b H1 A' ι' H'/\kD n g tb R (items.drop (i+1)) bW A',λσ' H' ⟨A',ι',bW,z⟩=>⟨_,by omega,rfl,D,A',ι',bW,z⟩,λx H3 y=>?_⟩;obtain⟨p,t,v3⟩:=g2 x H3 y;refine⟨B,c,C,items[i],_,d.next p t,v3,h,λE A4 F Nu H4 q4 u G s4=>?_⟩;have a:=p.trans u;refine⟨A4,F,E,_,(d.next p t).to u G s4,q4,⟨?_,k.rt.from ((s.trans f).trans a),k.nx.from ((s.trans f).trans a),?_⟩⟩
  .exact λj I l K H5 L r M s5=>⟨I,l,j,((d.next p t).to u G s4).to r M s5,(f.trans a).trans r,L⟩
  .exact λj I l K H5 L r M s5=>⟨I,l,j,((d.next p t).to u G s4).to r M s5,(f.trans a).trans r,L⟩
 .left
  have e:i=items.length:=by omega
  subst e;rw[List.drop_length] at h;exact⟨P.stop B c H2 f d.ra h.1,(k.nx.from (s.trans f)).here d h.2⟩
def nL:Option Nat->D->Option (List D)
 |none,x=>some [x]
 |some k,.tup ds=>if ds.length=k then some ds else none
 |some _,_=>none
def iX(dj:Ar->Prop)(k:Option Nat)(fr:bx)(tt:di)(te:aK)(R:List D->Ar->Prop):List D->List D->Ar->Prop
 |[],ys,A=>dj A/\R ys A
 |x::xs,ys,A=>dj A/\match nL k x with
  |some vs=>tt (vs.map some++fr) A λb A3=>cond b (te (vs.map some++fr) A3 λy A4=>ys.length<sizeLine/\iX dj k fr tt te R xs (ys++[y]) A4) (iX dj k fr tt te R xs ys A3)
  |none=>False
def sN(k:Option Nat)(ix:List Nat)(it:iT)(tt:di)(te:aK):aK:=λτ A R=>it τ A λitems dj A1=>iX dj k (ix.map (lk τ)) tt te (λys A2=>R (.ref A2.length) (A2++[.lst ys])) items [] A1
def mL:Nat->Nat->gD
 |_,0=>yT
 |i,n+1=>yS (kO i) (mL (i+1) n)
def qP(K:Frag):Option Nat->TG
 |none=>kO 0
 |some k=>yU K k (mL 0 k)
theorem yX{Q:L2.St->Hp->Prop}{H:Hp}{fs:L2.St}:∀(xs:List V) (a:L2.St),Q (a++(xs.map some++fs)) H->mL a.length xs.length xs (a++(replicate xs.length none++fs)) H Q
 |[],a,h=>⟨rfl,by simpa using h⟩
 |x::r,a,h=>by
  refine⟨x,r,rfl,?_⟩;show mL (a.length+1) r.length r ((a++(replicate (r.length+1) none++fs)).set a.length (some x)) H Q;have e:(a++(replicate (r.length+1) none++fs)).set a.length (some x)=(a++[some x])++(replicate r.length none++fs):=by
   rw[vK _ _ (aI _)];simp[List.replicate_succ]
  rw[e];have:=yX r (a++[some x]) (by simpa using h);simpa using this
theorem zu{fs:L2.St}:∀(xs:L2.St),eF (replicate xs.length none++fs) (xs++fs)
 |[]=>eF.refl fs
 |x::r=>.own (zu r)
section
variable{mg:au}{K:Frag}{A:Ar}{ι:Io}{H:Hp}
theorem MY{k:Option Nat}{d:D}{f:List D}{x:V}{n:Nat}(b:nL k d=some f)(r:RV mg ι n H d x):∃xs,aq mg ι n H f xs/\f.length=k.getD 1/\∀(fs:L2.St) (Q:L2.St->Hp->Prop),Q (xs.map some++fs) H->qP K k x (replicate (k.getD 1) none++fs) H Q:=by
 cases k with
 |none=>
  cases b;exact⟨[x],⟨x,[],rfl,r,rfl⟩,rfl,λfs Q q=>q⟩
 |some k=>
  cases d with
  |tup ds=>
   have b:(if ds.length=k then some ds else none)=some f:=b;by_cases c:ds.length=k
   .rw[ao c] at b
    cases b;obtain⟨a,xs,rfl,h1,h2⟩:=r;have g:=aq.length h2;refine⟨xs,h2,c,λfs Q q=>⟨a,xs,rfl,bf.of h1,by rw[<-g];exact c,?_⟩⟩;have:=yX (Q:=Q) (H:=H) (fs:=fs) xs [] q;show mL 0 k xs (replicate k none++fs) H Q;have e:k=xs.length:=by rw[<-g,c]
    rw[e];exact this
   .rw[av c] at b
    cases b
  |_=>cases b
theorem RA.off(R:RA mg ι H A){p:Addr}{o u:HO}(a:∀r,r<A.length->ι r≠p)(d:H p=some u)(e:gm u=true):RA mg ι (upd H p o) A:=
 ⟨λr c h=>CO.ag (aI _) (λ_ _=>rfl) (λb q m z=>by
  rw[bA]
  .exact z
  .rintro rfl
   rw[d] at z;cases z;rw[e] at m;cases m) (λq z=>by rw[bA (a r (cT.mp h).1)];exact z) c (R.fz r c h),R.inj⟩
end
theorem Mf{own:List Str}{ix:List Nat}{σ:L2.St}:L2.stC own ix σ=replicate own.length none++ix.map λi=>(σ[i]?).join:=by
 unfold L2.stC;rw[List.map_const']
theorem zC:∀(ds:List D) (fr:bx) (i:Nat) (d:D),lk (ds.map some++fr) i=some d->(ds[i]?=some d)\/(ds.length<=i/\lk fr (i - ds.length)=some d)
 |[],fr,i,d,h=>.inr ⟨c5 _,by simpa using h⟩
 |x::r,fr,0,d,h=>.inl (by simpa[lk] using h)
 |x::r,fr,i+1,d,h=>by
  rcases zC r fr i d (by simpa[lk] using h) with q|⟨a,b⟩
  .exact .inl (by simpa using q)
  .exact .inr ⟨by simpa using a,by simpa using b⟩
theorem RS.block{mg:au}{ι:Io}{n:Nat}{H:Hp}{τ:bx}{σ:L2.St}{ix:List Nat}{b:List D}{xs:List V}(r:RS mg ι n H τ σ)(h:aq mg ι n H b xs):RS mg ι n H (b.map some++ix.map (lk τ)) (xs.map some++ix.map λi=>(σ[i]?).join):=⟨by simp[aq.length h],λi d q=>by
 have c:=aq.length h;rcases zC b _ i d q with q|⟨f,a⟩
 .obtain⟨v,h1,h2⟩:=aq.get h q
  have hi:=(cT.mp h1).1;exact⟨v,by rw[ic (by simpa using hi),dP,h1];rfl,h2⟩
 .rw[pU,dP] at a
  cases e:ix[i - b.length]? with
  |none=>rw[e] at a;simp at a
  |some j=>
   rw[e] at a;have a:lk τ j=some d:=by simpa using a
   obtain⟨v,h1,h2⟩:=r.at' j d a;refine⟨v,?_,h2⟩;rw[jZ (by simpa[<-c] using f),dP,bB,<-c,e];simp[h1]⟩
section
variable{X:Cx}{N:En}{own frees:List Str}{ix:List Nat}{it:iT}{tt:di}{te:aK}{k:Option Nat}
theorem Co(hk:own.length=k.getD 1){tT:CP->TT}(hT:∀c σ H Q,b8 X.mg N tt σ H Q->tT c σ H Q){σ:L2.St}{H:Hp}{Q:VK}(q:up X.mg N (sN k ix it tt te) σ H Q):ve own ix (lB X.mg N it) (λ_=>qP X.K k) tT (λ_=>up X.mg N te) σ H Q:=by
 obtain⟨A,ι,τ,R,S,q,kq⟩:=q;refine⟨A,ι,τ,_,S,q,λitems W A1 F H1 J q1 e1 r1 j1 c acc f=>?_⟩;have S1:=S.next e1 r1;rw[Mf,hk];have Y:∀r,r<A1.length->F r≠acc:=λr n z=>by
  obtain⟨o,h1,_⟩:=r1.im r n;rw[z,f] at h1;cases h1
 have rn:=r1.yK (o:=.lst []) f;refine⟨λi m ys H'=>m=items.length - i/\i<=items.length/\∃A' ι' d,RA X.mg ι' H' A'/\Ext A1 F H1 A' ι' H'/\(∀r,r<A'.length->ι' r≠acc)/\H' acc=some (.lst ys)/\aq X.mg ι' A'.length H' d ys/\iX W k (ix.map (lk τ)) tt te (λys a=>R (.ref a.length) (a++[.lst ys])) (items.drop i) d A',
  ⟨_,rfl,c5 _,A1,F,[],r1.fix rn (λb o z=>by rw[bA (dJ z f)];exact z),rn,Y,fX,rfl,by simpa using q1⟩,?_⟩
 rintro i m ys H2 ⟨rfl,hi,a,g,d,r2,D,l,hy,ry,E⟩;refine⟨hy,?_⟩;by_cases G:i<items.length
 .right
  have hd:items.drop i=items[i]::items.drop (i+1):=by rw[jY G]
  rw[hd] at E;obtain⟨t,E⟩:=E;obtain⟨g1,g2⟩:=j1.go i items[i] a g H2 (by rw[bS G]) D r2 t;refine⟨g1,λO H'=>∃A' ι' L,RA X.mg ι' H' A'/\Ext A1 F H1 A' ι' H'/\(∀r,r<A'.length->ι' r≠acc)/\H' acc=some (.lst O)/\aq X.mg ι' A'.length H' L O/\iX W k (ix.map (lk τ)) tt te (λys a=>R (.ref a.length) (a++[.lst ys])) (items.drop (i+1)) L A',λO H' z=>⟨_,by omega,rfl,G,z⟩,λx H3 y=>?_⟩;obtain⟨e3,r3,v3⟩:=g2 x H3 y;split at E
  .rename_i vs hu
   obtain⟨xs,h1,h2,h3⟩:=MY (K:=X.K) hu v3;refine h3 _ _ ⟨by have:=zu (fs:=ix.map λi=>(σ[i]?).join) (xs.map some);rw[bB,<-aq.length h1,h2] at this;exact this,?_⟩;have I:=D.trans e3;have S3:cC X.mg N a g (vs.map some++ix.map (lk τ)) (xs.map some++ix.map λi=>(σ[i]?).join) H3:=⟨r3,RS.block (S1.rs.ext I) h1,S1.ex.trans I⟩;have Z:H3 acc=some (.lst ys):=e3.mo acc _ hy l;refine hT _ _ _ _ ⟨a,g,_,_,S3,E,λb A4 P H4 q4 T r4=>?_⟩;have w:∀r,r<A4.length->P r≠acc:=λr n z=>by
    by_cases G:r<a.length
    .rw[T.ag r G] at z;exact l r G z
    .have:=T.nw r (by omega) n
     rw[z,Z] at this;cases this
   have U:H4 acc=some (.lst ys):=T.mo acc _ Z l;have AN:=aq.ext (e3.trans T) d ys ry;cases b with
   |true=>
    refine Hv ?_;refine⟨A4,P,_,_,S3.next T r4,q4,λv A5 CA H5 u q5 e5 r5 v5=>?_⟩;have V:H5 acc=some (.lst ys):=e5.mo acc _ U w;have M:∀r,r<A5.length->CA r≠acc:=λr n z=>by
     by_cases G:r<A4.length
     .rw[e5.ag r G] at z;exact w r G z
     .have:=e5.nw r (by omega) n
      rw[z,U] at this;cases this
    have AO:=aq.ext e5 d ys AN;have p:=(I.trans T).trans e5;have fx:∀b o,gm o=false->H5 b=some o->upd H5 acc (.lst (ys++[u])) b=some o:=λb o m z=>by
     rw[bA]
     .exact z
     .rintro rfl
      rw[V] at z;cases z;cases m
    refine⟨V,by rw[<-aq.length AO];exact q5.1,A5,CA,d++[v],r5.off M V rfl,⟨p.len,p.ag,p.im,λb o z hn=>?_,p.nw,λb o z=>?_⟩,M,fX,?_,q5.2⟩
    .rw[bA (dJ z f)];exact p.mo b o z hn
    .obtain⟨o',h'⟩:=p.al b o z
     exact⟨o',by rw[bA (dJ z f)];exact h'⟩
    .exact aq.ag (aI _) (λ_ _=>rfl) fx _ _ (AO.app (es:=[v]) (ws:=[u]) ⟨u,[],rfl,v5,rfl⟩)
   |false=>
    refine Hu ?_;exact⟨A4,P,d,r4,I.trans T,w,U,AN,q4⟩
  .exact E.elim
 .left
  have e:i=items.length:=by omega
  subst e;rw[List.drop_length] at E;obtain⟨t,E⟩:=E;refine⟨j1.stop a g H2 D r2 t,?_⟩;obtain⟨B,j,at2⟩:∃B:Io,(∀r,r<a.length->B r=g r)/\B a.length=acc:=⟨λr=>if r=a.length then acc else g r,λr h=>by
   show(if r=a.length then acc else g r)=g r;rw[av (by omega)],by
   show(if a.length=a.length then acc else g a.length)=acc;rw[ao rfl]⟩
  refine kq (.ref a.length) (a++[.lst d]) B H2 _ E (e1.trans ⟨by have:=D.len;simp;omega,λr h=>by rw[j r (cB h D.len)];exact D.ag r h,D.im,D.mo,λr h1 h2=>?_,D.al⟩) ⟨λr c h=>?_,λr s n hs h=>?_⟩ ⟨by simp,by rw[at2]⟩
  .by_cases n:r<a.length
   .rw[j r n];exact D.nw r h1 n
   .have:r=a.length:=by simp at h2;omega
    subst this;rw[at2];exact f
  .by_cases n:r<a.length
   .rw[ic n] at h
    have:=CO.ag (n':=(a++[C.lst d]).length) (ι':=B) (H':=H2) (by simp) j (λ_ _ _ z=>z) (λ_ z=>z) c (r2.fz r c h);rw[j r n];exact this
   .have hr':r=a.length:=by
     have:=(cT.mp h).1;simp at this;omega
    subst hr';simp at h;subst h;rw[at2];exact⟨ys,hy,aq.ag (by simp) j (λ_ _ _ z=>z) d ys ry⟩
  .simp at n hs
   by_cases h1:r=a.length
   .by_cases h2:s=a.length
    .rw[h1,h2]
    .subst h1
     rw[at2,j s (by omega)] at h;exact absurd h.symm (l s (by omega))
   .by_cases h2:s=a.length
    .subst h2
     rw[at2,j r (by omega)] at h;exact absurd h (l r (by omega))
    .rw[j r (by omega),j s (by omega)] at h
     exact r2.inj r s (by omega) (by omega) h
end
def nJ:di:=λ_ A R=>R true A
section
variable{X:Cx}{N:En}{own frees:List Str}{ix:List Nat}{it:iT}{tt:di}{te:aK}(k:Option Nat){tg iter elt NN:Expr}{scope:Scope}{pos:Pos}
theorem iy(hk:own.length=k.getD 1)(hi:PI X tg iter (lB X.mg N it))(a:∀c,PG (bD X (own++frees) scope c) tg (qP X.K k))(b:∀c,PE (bD X (own++frees) scope c) elt (up X.mg N te))(S:dF X scope frees:=by exact⟨rfl,by decide+kernel,by decide+kernel,by decide+kernel,by decide+kernel,rfl⟩)(hc:X.calm=true:=by rfl)(d:ix.map (λi=>X.N[i]?)=frees.map some:=by rfl)(e:∀x,foldedSetIterable iter X.env x=pure x:=by intro _;rfl):
  PE X (.ListComp elt [⟨tg,iter,[],0⟩] scope pos) (up X.mg N (sN k ix it nJ te)):=
 cP (JT hi a (λc=>gC.nil) b S hc d e) λσ H Q q=>Co (own:=own) hk (λ_ σ H Q h=>by
  obtain⟨A,ι,τ,R,S,h,k⟩:=h;exact k.here S.ra h) q
variable{i:Nat}{x:Str}{pos' spos:Pos}
theorem yu(a:X.N.Nodup)(b:X.N[i]?=some x)(f:Loc X.env.scope x)(hk:own.length=k.getD 1)(hi:PI X tg iter (lB X.mg N it))(g:∀c,PG (bD X (own++frees) scope c) tg (qP X.K k))(j:∀c,PE (bD X (own++frees) scope c) elt (up X.mg N te))(S:dF X scope frees:=by exact⟨rfl,by decide+kernel,by decide+kernel,by decide+kernel,by decide+kernel,rfl⟩)(hc:X.calm=true:=by rfl)(l:ix.map (λi=>X.N[i]?)=frees.map some:=by rfl)(m:∀x,foldedSetIterable iter X.env x=pure x:=by intro _;rfl)
  (d:swapsWith (.ListComp elt [⟨tg,iter,[],0⟩] scope pos) (some (.Name x pos')) spos.line X.env=pure true:=by rfl)(n:X.fn x=true\/X.env.scope.names.lookup x=some .local:=by first|exact .inl rfl|exact .inr rfl|assumption):
  PS X (.Assign [.Name x pos'] (.ListComp elt [⟨tg,iter,[],0⟩] scope pos) spos) (b7 X.mg N (uP i (sN k ix it nJ te))):=
 gG (Kq a b f hi g (λc=>gC.nil) j S hc l m d n) λQ σ H q=>by
  obtain⟨A,ι,τ,R,Z,q,k⟩:=q;exact Co (own:=own) hk (λ_ σ H Q h=>by
   obtain⟨A,ι,τ,R,S,h,k⟩:=h;exact k.here S.ra h) ⟨A,ι,τ,_,Z,q,λv t o H1 u p e r s=>(k.nx.from e).here ((Z.next e r).set s) p⟩
end
abbrev jt:=bx->Ar->(Option Int->Ar->Prop)->Prop
def lD(mg:au)(N:En)(m:jt):TO:=λσ H Q=>∃A ι τ R,cC mg N A ι τ σ H/\m τ A R/\∀o A' ι' H',R o A'->Ext A ι H A' ι' H'->RA mg ι' H' A'->Q o H'
def oN:jt:=λ_ A R=>R none A
def oS(m:aK):jt:=λτ A R=>m τ A λx A1=>match x with
 |.int i=>R (some i) A1
 |_=>False
def cutD(xs:List D)(lo hi:Option Int):List D:=(xs.drop (HT.aP xs.length 0 lo)).take (HT.aP xs.length xs.length hi - HT.aP xs.length 0 lo)
theorem aq.cut{mg:au}{ι:Io}{H:Hp}{n:Nat}{ds:List D}{a:List V}(r:aq mg ι n H ds a)(lo hi:Option Int):aq mg ι n H (cutD ds lo hi) (iZ a lo hi):=by
 unfold cutD iZ;rw[<-aq.length r];exact(r.drop _).take _
@[irreducible] def uZ(r:Nat)(lo hi:Option Int)(A:Ar)(R:DK):Prop:=match A[r]? with
 |some (.lst xs)=>R (.ref A.length) (A++[.lst (cutD xs lo hi)])
 |_=>False
def LR(x:D)(lo hi:Option Int)(A:Ar)(R:DK):Prop:=match x with
 |.tup xs=>¬(HT.aP xs.length 0 lo=0/\HT.aP xs.length xs.length hi=xs.length)/\R (.tup (cutD xs lo hi)) A
 |.ref r=>uZ r lo hi A R
 |_=>False
def Et(m:aK)(l u:jt):aK:=λτ A R=>m τ A λx A1=>l τ A1 λlo A2=>u τ A2 λhi A3=>LR x lo hi A3 R
section
variable{X:Cx}{N:En}{pos p2:Pos}{e:Expr}{lo hi:Option Expr}{m:aK}{l u:jt}
theorem yr{t t':TO}(h:PO X lo t)(w:∀σ H Q,t' σ H Q->t σ H Q):PO X lo t':=λpins s σ H Q I q=>h pins s σ H Q I (w σ H Q q)
theorem mF:PO X none (lD X.mg N oN):=yr Kg λσ H Q q=>by
 obtain⟨A,ι,τ,R,S,q,k⟩:=q;exact k none A ι H q S.ra.refl S.ra
theorem gi(h:PE X e (up X.mg N m)):PO X (some e) (lD X.mg N (oS m)):=yr (Kh h) λσ H Q q=>by
 obtain⟨A,ι,τ,R,S,q,k⟩:=q;refine⟨A,ι,τ,_,S,q,λx c a H1 u b d f g=>?_⟩;cases x with
 |int i=>exact⟨i,g,k (some i) c a H1 b d f⟩
 |_=>exact b.elim
theorem EW(t:PE X e (up X.mg N m))(w:PO X lo (lD X.mg N l))(y:PO X hi (lD X.mg N u)):PE X (.Subscript e (.Slice lo hi none p2) pos) (up X.mg N (Et m l u)):=
 cP (Ab (LX.or LU) t w y) λσ H Q q=>by
  obtain⟨A,ι,τ,R,S,q,k⟩:=q;refine⟨A,ι,τ,_,S,q,λx z d H1 v B f n C=>?_⟩;refine⟨z,d,τ,_,S.next f n,B,λD E g H2 F h G=>?_⟩;refine⟨E,g,τ,_,(S.next f n).next h G,F,λI J K M b o i=>?_⟩;have c:=(f.trans h).trans o;have s:=RV.ext (h.trans o) x v C;cases x with
  |tup ds=>
   obtain⟨a,xs,rfl,h1,h2⟩:=s;refine .inl ⟨a,xs,rfl,bf.of h1,by rw[<-aq.length h2];exact b.1,λp j=>m6 (k.from c) i (h2.cut _ _) b.2 j⟩
  |ref r=>
   obtain⟨_,rfl⟩:=s;have b:uZ r D I J R:=b;unfold uZ at b;split at b
   .rename_i xs e
    obtain⟨L,h1,h2⟩:=i.lst e;exact .inr ⟨_,L,rfl,aZ.of h1,λp j=>k7 (k.from c) i (h2.cut _ _) b j⟩
   .exact b.elim
  |_=>exact b.elim
end
def gP:List D->Option (List Str)
 |[]=>some []
 |.str b::r=>(gP r).map (b::·)
 |_::_=>none
theorem B7{mg:au}{ι:Io}{n:Nat}{H:Hp}:∀{ds:List D} {a:List V} {bs:List Str},gP ds=some bs->aq mg ι n H ds a->a=bs.map V.str
 |[],a,bs,h,r=>by cases h;exact r
 |d::ds,a,bs,h,r=>by
  obtain⟨x,r',rfl,h1,h2⟩:=r;cases d with
  |str b=>
   cases q:gP ds with
   |none=>simp[gP,q] at h
   |some l=>
    simp[gP,q] at h;subst h;rw[B7 q h2];cases h1;rfl
  |_=>simp[gP] at h
theorem aq.strs{mg:au}{ι:Io}{H:Hp}:∀(ns:List Str) {n:Nat},aq mg ι n H (ns.map D.str) (ns.map V.str)
 |[],_=>rfl
 |i::r,n=>⟨_,_,rfl,rfl,aq.strs r⟩
@[irreducible] def nC(r:Nat)(A:Ar)(R:DK):Prop:=match A[r]? with
 |some (.lst xs)=>(match gP xs with
  |some ss=>ss.length<64/\∀ys:List Str,ys.Pairwise strLt->(∀x,x∈ys↔x∈ss)->R (.ref A.length) (A++[.lst (ys.map D.str)])
  |none=>False)
 |_=>False
def Ma:fm:=λvs A R=>match vs with
 |[.ref r]=>nC r A R
 |_=>False
theorem sR{X:Cx}{N:En}{e:Expr}{n:cO}{m p2 c a:Pos}(d:X.mg "sorted"=none)(f:X.mg "set"=none)(hc:X.calm=true)(o:PA X [e] (eV X.mg N n))(g:Gl X "sorted":=by rfl)(h:Gl X "set":=by rfl)
  (p:starEach [e] X.env=[(false,eval e X.env)]:=by rfl)(s:starEach [.Call (.Name "set" p2) [e] [] a] X.env=[(false,eval (.Call (.Name "set" p2) [e] [] a) X.env)]:=by rfl):
  PE X (.Call (.Name "sorted" m) [.Call (.Name "set" p2) [e] [] a] [] c) (up X.mg N (oX Ma n)):=cP (J3 d f hc o g h p s) λσ H Q q=>by
 obtain⟨A,ι,τ,R,S,q,k⟩:=q;refine⟨A,ι,τ,_,S,q,λt u v H1 w b x j i=>?_⟩;match t,b,i with
 |[.ref r],b,i=>
  obtain⟨_,_,rfl,⟨_,rfl⟩,rfl⟩:=i;have b:nC r u R:=b;unfold nC at b;split at b
  .rename_i xs e
   split at b
   .rename_i ss es
    obtain⟨w,h1,h2⟩:=j.lst e;exact⟨_,ss,rfl,aZ.of (by rw[h1,B7 es h2]),b.1,λl ys y z B=>k7 (k.from x) j (aq.strs ys) (b.2 ys z B) y⟩
   .exact b.elim
  .exact b.elim
def iK{β:Type}(kvs:List (Key×β))(k:Key)(v:β):List (Key×β):=
 if (kvs.any λkv=>decide (kv.1=k))=true then kvs.map (λkv=>if kv.1=k then (kv.1,v) else kv) else kvs++[(k,v)]
section
variable{mg:au}{ι:Io}{H:Hp}{n:Nat}
theorem RK.any{k:Key}:∀{kvs:List (Key×D)} {xs:List (Key×V)},RK mg ι n H kvs xs->(kvs.any λa=>decide (a.1=k))=(xs.any λa=>decide (a.1=k))
 |[],xs,h=>by cases (show xs=[] from h);rfl
 |p::r,xs,h=>by
  obtain⟨x,r',rfl,h1,h2⟩:=h;rw[any_cons,any_cons,RK.any h2]
theorem RK.uq{k:Key}{d:D}{v:V}(c:RV mg ι n H d v):∀{kvs:List (Key×D)} {xs:List (Key×V)},RK mg ι n H kvs xs->RK mg ι n H (kvs.map λa=>if a.1=k then (a.1,d) else a) (xs.map λa=>if a.1=k then (a.1,v) else a)
 |[],xs,h=>by cases (show xs=[] from h);rfl
 |p::r,xs,h=>by
  obtain⟨x,r',rfl,h1,h2⟩:=h;rw[eB,eB];by_cases b:p.1=k
  .rw[ao b,ao b];exact⟨v,_,rfl,c,RK.uq c h2⟩
  .rw[av b,av b];exact⟨x,_,rfl,h1,RK.uq c h2⟩
theorem RK.app:∀{ds es:List (Key×D)} {a ws:List (Key×V)},RK mg ι n H ds a->RK mg ι n H es ws->RK mg ι n H (ds++es) (a++ws)
 |[],_,a,_,h,q=>by have h':a=[]:=h;rw[h'];exact q
 |d::ds,es,a,ws,h,q=>by
  obtain⟨x,r,rfl,b,c⟩:=h;exact⟨x,r++ws,rfl,b,RK.app c q⟩
theorem RK.put{k:Key}{d:D}{v:V}(a:RV mg ι n H d v){kvs:List (Key×D)}{xs:List (Key×V)}(h:RK mg ι n H kvs xs):RK mg ι n H (iK kvs k d) (putK xs k v):=by
 unfold iK putK;rw[RK.any h];split
 .exact RK.uq a h
 .exact h.app (es:=[(k,d)]) (ws:=[(k,v)]) ⟨v,[],rfl,a,rfl⟩
end
def ef:List D->Option (List (Key×D))
 |[]=>some []
 |.tup [a,b]::r=>(match jb a,ef r with
  |some k,some l=>some ((k,b)::l)
  |_,_=>none)
 |_::_=>none
def Ah(ps:List (Key×D)):List (Key×D):=ps.foldl (λacc p=>iK acc p.1 p.2) []
section
variable{mg:au}{K:Frag}{ι:Io}{H:Hp}{n:Nat}
theorem z4:∀{ds:List D} {c:List V} {ps:List (Key×D)},ef ds=some ps->aq mg ι n H ds c->∃d,RK mg ι n H ps d/\c.length=d.length/\∀(i:Nat) (x:V) (p:Key×V),c[i]?=some x->d[i]?=some p->∃t,x=.ref t/\bf K H t [kV p.1,p.2]
 |[],c,ps,h,r=>by
  cases h;cases (show c=[] from r);exact⟨[],rfl,rfl,λi x p e=>by simp at e⟩
 |.tup [a,b]::ds,c,ps,h,r=>by
  obtain⟨x,r',rfl,h1,h2⟩:=r;unfold ef at h;split at h
  .rename_i k l q s
   cases h;obtain⟨d,g1,g2,g3⟩:=z4 s h2;obtain⟨t,xs,rfl,u,A,_,rfl,v,f,_,rfl,w,y⟩:=h1;obtain rfl:=y;cases pO q v;refine⟨(k,f)::d,⟨f,d,rfl,w,g1⟩,by simp[g2],λi z p m o=>?_⟩;cases i with
   |zero=>
    have g:V.ref t=z:=by simpa using m
    have j:(k,f)=p:=by simpa using o
    subst g j;exact⟨t,rfl,bf.of u⟩
   |succ i=>exact g3 i z p (by simpa using m) (by simpa using o)
  .cases h
 |.aM::_,_,_,h,_=>by simp[ef] at h
 |.bl _::_,_,_,h,_=>by simp[ef] at h
 |.int _::_,_,_,h,_=>by simp[ef] at h
 |.str _::_,_,_,h,_=>by simp[ef] at h
 |.ref _::_,_,_,h,_=>by simp[ef] at h
 |.fl _::_,_,_,h,_=>by simp[ef] at h
 |.exc _::_,_,_,h,_=>by simp[ef] at h
 |.tup []::_,_,_,h,_=>by simp[ef] at h
 |.tup [_]::_,_,_,h,_=>by simp[ef] at h
 |.tup (_::_::_::_)::_,_,_,h,_=>by simp[ef] at h
theorem RK.fold{ps:List (Key×D)}{a:List (Key×V)}(h:RK mg ι n H ps a):∀{acc:List (Key×D)} {l8:List (Key×V)},RK mg ι n H acc l8->RK mg ι n H (ps.foldl (λacc p=>iK acc p.1 p.2) acc) (a.foldl (λacc p=>putK acc p.1 p.2) l8):=by
 induction ps generalizing a with
 |nil=>intro acc l8 b;cases (show a=[] from h);exact b
 |cons p r c=>
  intro acc l8 b;obtain⟨x,r',rfl,h1,h2⟩:=h;exact c h2 (RK.put h1 b)
end
theorem IS{mg:au}{A:Ar}{ι:Io}{H:Hp}{R:DK}{Q:VK}{ds:List (Key×D)}{xs:List (Key×V)}{p:Addr}(k:Kt mg A ι H R Q)(r:RA mg ι H A)(h:RK mg ι A.length H ds xs)(q:R (.ref A.length) (A++[.dct ds]))(a:H p=none):Q (.ref p) (upd H p (.dK xs)):=by
 have E:Ext A ι H (A++[.dct ds]) (λr=>if r=A.length then p else ι r) (upd H p (.dK xs)):=r.tF a;obtain⟨b,d⟩:=r.push (c:=.dct ds) (o:=.dK xs) a ⟨xs,fX,by simpa using RK.ext E ds xs h⟩;refine k _ _ _ _ _ q d b ⟨by simp,?_⟩;show V.ref p=V.ref (if A.length=A.length then p else ι A.length);rw[ao rfl]
@[irreducible] def dctP(xs:List D)(A:Ar)(R:DK):Prop:=match ef xs with
 |some ps=>ps.length<=1000/\R (.ref A.length) (A++[.dct (Ah ps)])
 |none=>False
@[irreducible] def x_(r:Nat)(A:Ar)(R:DK):Prop:=match A[r]? with
 |some (.lst xs)=>dctP xs A R
 |_=>False
def x9:fm:=λvs A R=>match vs with
 |[.tup xs]=>dctP xs A R
 |[.ref r]=>x_ r A R
 |_=>False
theorem RK.len'{mg:au}{ι:Io}{H:Hp}{n:Nat}{ds:List (Key×D)}{a:List (Key×V)}(h:RK mg ι n H ds a):a.length=ds.length:=(RK.length h).symm
theorem sP{mg:au}{K:Frag}:fN mg (λxs H Q=>∃(p:Addr) (b:List V) (ps:List (Key×V)),xs=[.ref p]/\(H p=some (.lst b)\/H p=some (.tup b))/\Pairs K H b ps/\ps.length<=1000/\∀d,H d=none->Q (.ref d) (upd H d (.dK (putAll ps)))) x9:=by
 intro ds A ι H f R Q ra rs h k;have fin:∀(xs:List D) (b:List V) (p:Addr),aq mg ι A.length H xs b->(H p=some (.lst b)\/H p=some (.tup b))->dctP xs A R->∃(q:Addr) (b:List V) (ps:List (Key×V)),[V.ref p]=[.ref q]/\(H q=some (.lst b)\/H q=some (.tup b))/\Pairs K H b ps/\ps.length<=1000/\∀d,H d=none->Q (.ref d) (upd H d (.dK (putAll ps))):=λxs b p r g h=>by
  unfold dctP at h;split at h
  .rename_i ps ep
   obtain⟨i,g1,g2,g3⟩:=z4 (K:=K) ep r;exact⟨p,b,i,rfl,g,⟨g2,g3⟩,by rw[RK.len' g1];exact h.1,λd hd=>IS k ra (RK.fold g1 (acc:=[]) (l8:=[]) rfl) h.2 hd⟩
  .exact h.elim
 unfold x9 at h;split at h
 .obtain⟨_,_,rfl,⟨a,xs,rfl,j,c⟩,rfl⟩:=rs
  exact fin _ xs a c (.inr j) h
 .obtain⟨_,_,rfl,⟨_,rfl⟩,rfl⟩:=rs
  unfold x_ at h;split at h
  .rename_i xs e
   obtain⟨f,h1,c⟩:=ra.lst e;exact fin _ f _ c (.inl h1) h
  .exact h.elim
 .exact h.elim
def Ef(x:Str)(m:aK):aK:=λτ A R=>m τ A λv A1=>match v with
 |.str y=>x.length+y.length<=sizeLine/\R (.str (x++y)) A1
 |_=>False
theorem ES{X:Cx}{N:En}{e:Expr}{m:aK}{x:Str}{k:Nat}{b p2 pos:Pos}(c:PE X e (up X.mg N m))(d:x.length<=sizeLine:=by decide):PE X (.JoinedStr [.Constant (.str x) k b,.FormattedValue e (-1) none p2] pos) (up X.mg N (Ef x m)):=
 cP (JU c d) λσ H Q q=>by
  obtain⟨A,ι,τ,R,S,q,k⟩:=q;refine⟨A,ι,τ,_,S,q,λv j f H1 u a g h i=>?_⟩;cases v with
  |str y=>cases i;exact⟨y,rfl,a.1,(k.from g).here h a.2 rfl⟩
  |_=>exact a.elim
def I9:DX:=λ_ _=>False
theorem qB{X:Cx}{N:En}{P:Program}{w:World}:Passes (a_ P w) X (EL X.mg N I9):=λpins σ H s e s' I h=>by
 obtain⟨a,C,H',_,_,c,A',ι',_,_,_,z⟩:=h;exact z.elim
theorem zp{K:Frag}:∀t∈tys,kitOne K (.type t) (.type "bool")=some (ja t "bool"):=by
 intro t a;simp only[tys,aW,eW,eY] at a;rcases a with rfl|rfl|rfl|rfl|rfl|rfl|rfl<;>rfl
theorem zq{K:Frag}:∀t∈tys,kitOne K (.type t) (.type "int")=some (ja t "int"):=by
 intro t a;simp only[tys,aW,eW,eY] at a;rcases a with rfl|rfl|rfl|rfl|rfl|rfl|rfl<;>rfl
theorem mP{K:Frag}:∀t∈tys,kitOne K (.type t) (.type "str")=some (ja t "str"):=by
 intro t a;simp only[tys,aW,eW,eY] at a;rcases a with rfl|rfl|rfl|rfl|rfl|rfl|rfl<;>rfl
theorem kit_tuple{K:Frag}:∀t∈tys,kitOne K (.type t) (.type "tuple")=some (ja t "tuple"):=by
 intro t a;simp only[tys,aW,eW,eY] at a;rcases a with rfl|rfl|rfl|rfl|rfl|rfl|rfl<;>rfl
theorem cI{b:Bool}{X Y:Prop}(h1:b=true->X)(h2:b=false->Y):cond b X Y:=by
 cases b with
 |true=>exact h1 rfl
 |false=>exact h2 rfl
theorem cD{p:Prop}[Decidable p]{X Y:Prop}(h1:p->X)(h2:¬p->Y):cond (decide p) X Y:=cI (λe=>h1 (nQ e)) λe=>h2 (of_decide_eq_false e)
theorem cN{p:Prop}[Decidable p]{X Y:Prop}(h1:¬p->X)(h2:p->Y):cond (!decide p) X Y:=cI (λe=>h1 (of_decide_eq_false (by simpa using e))) λe=>h2 (nQ (by simpa using e))
def cU(t:Nat)(A A':Ar):Prop:=∀q c,q≠t->A[q]?=some c->A'[q]?=some c
theorem cU.refl{t:Nat}{A:Ar}:cU t A A:=λ_ _ _ h=>h
theorem cU.trans{t:Nat}{A B C:Ar}(a:cU t A B)(b:cU t B C):cU t A C:=λq c n h=>b q c n (a q c n h)
theorem cU.set{t:Nat}{A:Ar}{c:C}:cU t A (A.set t c):=λq d n h=>by rw[n9 (Ne.symm n)];exact h
def Tw(t n:Nat)(A:Ar):Prop:=∃xs,A[t]?=some (.lst xs)/\xs.length<=n
theorem Tw.mono{t n m:Nat}{A:Ar}(h:Tw t n A)(l:n<=m):Tw t m A:=let ⟨xs,a,b⟩:=h;⟨xs,a,cM b l⟩
theorem getElem?_push{A T:Ar}{q:Nat}{c:C}(h:A[q]?=some c):(A++T)[q]?=some c:=by
 have:=(cT.mp h).1;rw[ic this];exact h
def Gr(A A':Ar):Prop:=∃T,A'=A++T
theorem Gr.refl{A:Ar}:Gr A A:=⟨[],by simp⟩
theorem Gr.push{A T:Ar}:Gr A (A++T):=⟨T,rfl⟩
theorem Gr.trans{A B C:Ar}(a:Gr A B)(b:Gr B C):Gr A C:=by
 obtain⟨T,rfl⟩:=a;obtain⟨c,rfl⟩:=b;exact⟨T++c,by simp⟩
theorem Gr.get{A B:Ar}(a:Gr A B){q:Nat}{c:C}(h:A[q]?=some c):B[q]?=some c:=by
 obtain⟨T,rfl⟩:=a;exact getElem?_push h
theorem Gr.but{A B:Ar}{t:Nat}(a:Gr A B):cU t A B:=λ_ _ _ h=>a.get h
theorem Tw.gr{A B:Ar}{t n:Nat}(h:Tw t n A)(a:Gr A B):Tw t n B:=let ⟨xs,x,y⟩:=h;⟨xs,a.get x,y⟩
def wk:Ct:=λds A R _=>∃ns k,ds=[.fl ns,.int k]/\0<=k/\∀i A',Gr A A'->R (.int i) A'
def wK:Ct:=λds A R _=>∃ns k m,ds=[.fl ns,.int k,.int m]/\0<=k/\0<m/\∀i A',0<=i->i<m->Gr A A'->R (.int i) A'
def j_:Ct:=λds A R _=>∃ns t m n,ds=[.fl ns,.ref t,.int m]/\Tw t n A/\n<1000000/\0<m/\∀i A',0<=i->i<m->cU t A A'->Tw t (n+1) A'->R (.int i) A'
def lZ:Ct:=λds A R _=>∃ns t q xs n,ds=[.fl ns,.ref t,.ref q]/\q≠t/\A[q]?=some (.lst xs)/\xs≠[]/\Tw t n A/\n<1000000/\∀x A',x∈xs->cU t A A'->Tw t (n+1) A'->R x A'
theorem oK{α:Type}{xs:List α}{k:Int}(h0:0<=k)(h:k<(xs.length:Int)):∃v,bU xs k=some v/\v∈xs:=by
 have hk:k.toNat<xs.length:=by omega
 refine⟨xs[k.toNat],?_,cA hk⟩;unfold bU iF;rw[ao h0,ao h];simp[bS hk]
theorem lay_ints:∀ns:List Int,canLayAll0 (ns.map PyData.int)=true
 |[]=>by simp[canLayAll0]
 |n::r=>by simp[canLayAll0,canLay0,lay_ints r]
theorem aT{A:Ar}{c:C}:(A++[c])[A.length]?=some c:=by simp
theorem Fw{ns:List Int}{A:Ar}{R:DK}(h:R (.bl (decide (ns=[]))) (A++[.lst []])):e8 false (.fl ns) (.ref A.length) (A++[.lst []]) R:=by
 unfold e8;have a:bX (A++[.lst []]) (.ref A.length)=.list []:=by unfold bX;simp only[aT];rfl
 have b:bX (A++[.lst []]) (.fl ns)=.list (ns.map PyData.int):=by unfold bX;rfl
 refine⟨rfl,?_,?_,?_,?_,?_⟩
 .unfold fS;simp only[aT];rfl
 .rw[b];simpa[canLay0] using lay_ints ns
 .rw[a];simp[canLay0,canLayAll0]
 .rw[a];simp[PyData.depth,depthAll];omega
 .rw[b,a]
  have e:PyData.eqv (.list (ns.map PyData.int)) (.list [])=decide (ns=[]):=by cases ns<;>simp[PyData.eqv,eqvAll]
  rw[av bR,e];exact h
section
variable{A:Ar}{r q t:Nat}{xs ys:List D}{kvs:List (Key×D)}{R:DK}
theorem pL(h:A[r]?=some (.lst xs)):jC A (.ref r)=true:=by unfold jC;simp only[h]
theorem oG{y:D}(h:A[r]?=some (.lst xs))(a:xs.length<sizeLine)(k:R .aM (A.set r (.lst (xs++[y])))):oE r y A R:=by
 unfold oE;simp only[h];exact⟨a,k⟩
theorem kB(h:A[r]?=some (.lst xs))(h2:A[q]?=some (.lst ys))(a:xs.length+ys.length<=sizeLine)(k:R (.ref A.length) (A++[.lst (xs++ys)])):oV r q A R:=by
 unfold oV;simp only[h,h2];exact⟨a,k⟩
theorem pT(h:A[r]?=some (.lst xs))(k:R (.int xs.length) A):pS r A R:=by
 unfold pS;simp only[h];exact k
theorem HA{i:Int}{v:D}(h:A[r]?=some (.lst xs))(hi:bU xs i=some v)(k:R v A):kT r (.int i) A R:=by
 unfold kT;simp only[h,hi];exact k
theorem Cj(h:A[r]?=some (.lst xs))(k:R (.tup xs) A):qS r A R:=by
 unfold qS;simp only[h];exact k
theorem get_set(h:A[t]?=some (.lst xs)):(A.set t (.lst ys))[t]?=some (.lst ys):=by
 rw[n_ (cT.mp h).1]
theorem kZ{c:C}(h:A[t]?=some c):t<A.length:=(cT.mp h).1
end
open MA
abbrev M:=aS Str
def enc:M->D
 |.wt n=>.tup [.str "weight",.str n]
 |.ay l r a b=>.tup [.str "rod",.int l,.int r,enc a,enc b]
theorem iY{k:Option Nat}{fr:bx}{te:aK}{a:Ar->Prop}{R:List D->Ar->Prop}{A:Ar}(hc:a A)(f:D->D):∀(items ys:List D),(∀x∈items,∃b,nL k x=some b/\∀Q:DK,Q (f x) A->te (b.map some++fr) A Q)->ys.length+items.length<=sizeLine->R (ys++items.map f) A->iX a k fr nJ te R items ys A
 |[],ys,_,_,h=>⟨hc,by simpa using h⟩
 |x::xs,ys,c,d,h=>by
  obtain⟨b,e,g⟩:=c x (bJ ..);refine⟨hc,?_⟩;rw[e];refine g _ ⟨by simp at d;omega,iY hc f xs (ys++[f x]) (λy i=>c y (bE _ i)) (by simp at d ⊢;omega) (by simpa using h)⟩
theorem ko{α:Type}(f:α->Bool):∀xs:List α,gf (xs.map λx=>D.bl (f x))=some (xs.map f)
 |[]=>rfl
 |x::r=>by simp[gf,ko f r]
theorem ints_map{α:Type}(f:α->Int):∀xs:List α,gJ (xs.map λx=>D.int (f x))=some (xs.map f)
 |[]=>rfl
 |x::r=>by simp[gJ,ints_map f r]
theorem strs_map{α:Type}(f:α->Str):∀xs:List α,gP (xs.map λx=>D.str (f x))=some (xs.map f)
 |[]=>rfl
 |x::r=>by simp[gP,strs_map f r]
theorem l9{A:Ar}{r:Nat}{xs:List D}{bs:List Bool}{R:DK}(h:A[r]?=some (.lst xs))(a:gf xs=some bs)(k:R (.bl (bs.all id)) A):allR r A R:=by
 unfold allR;simp only[h,a];exact k
theorem Mm{A:Ar}{r:Nat}{xs:List D}{ns:List Int}{R:DK}(h:A[r]?=some (.lst xs))(a:gJ xs=some ns)(h1:∀n∈ns,0<=n/\n<=2 ^ 40)(h2:ns.length<=1000)(k:R (.int ns.sum) A):qM r A R:=by
 unfold qM;simp only[h,a];exact⟨h1,h2,k⟩
theorem u7{A:Ar}{r:Nat}{xs:List D}{ss:List Str}{R:DK}(h:A[r]?=some (.lst xs))(a:gP xs=some ss)(h2:ss.length<64)(k:∀ys:List Str,ys.Pairwise strLt->(∀x,x∈ys↔x∈ss)->R (.ref A.length) (A++[.lst (ys.map D.str)])):nC r A R:=by
 unfold nC;simp only[h,a];exact⟨h2,k⟩
theorem pM{A:Ar}{r:Nat}{xs:List D}{R:List D->(Ar->Prop)->Ar->Prop}(h:A[r]?=some (.lst xs))(k:R xs (λA'=>A'[r]?=some (.lst xs)) A):itR r A R:=by
 unfold itR;simp only[h];exact k
structure Nm(n:Str):Prop where
 lo:1<=n.length
 hi:n.length<=3
 az:∀c∈n.cps.toList,97<=c/\c<=122
structure Wf(m:M):Prop where
 arms:m.arms
 nm:∀n∈m.names,Nm n
def SV(dom:List D->D->Prop):Ct:=λds A R _=>∃v,dom ds v/\∀A',Gr A A'->R v A'
def SL(dom:List D->List D->Prop):Ct:=λds A R _=>∃v,dom ds v/\∀A' r,Gr A A'->A'[r]?=some (.lst v)->R (.ref r) A'
abbrev r9:Ct:=SV λds v=>∃i a b,ds=[.int i,.int a,.int b]/\v=.bl (decide (a<=i)&&decide (i<=b))
abbrev rZ:Ct:=SV λds v=>∃n,ds=[.str n]/\Nm n/\v=.bl true
abbrev wA(d:Nat):Ct:=SV λds v=>∃m,ds=[enc m,.int ((d:Int) - 1)]/\Wf m/\m.deep<d/\v=.bl true
abbrev wu:Ct:=SV λds v=>∃m,ds=[enc m]/\Wf m/\m.deep<=5/\v=.bl true
abbrev oz:Ct:=SV λds v=>∃m,ds=[enc m]/\Wf m/\m.deep<=5/\v=.aM
theorem fQ{P:Program}{w:World}{K:Frag}{mg:au}{base:Heap}{x:Str}{st:Stmt}{ps:List Str}{k n:Nat}{S:Ct}(T:TopD K mg x st ps)(no:∀ds A R RE,¬S ds A R RE):aj P w K mg base k x ps (ak mg n S):=by
 obtain⟨f,fd,F,b,m⟩:=T;have c:∀a H Q E,¬ak mg n S a H Q E:=λa H Q E h=>by
  obtain⟨A,ι,ds,R,RE,_,_,_,z,_⟩:=h;exact no _ _ _ _ z
 exact⟨f,fd,⟨λa H Q E h=>absurd h (c a H Q E),λA outer s H args d a Q E _ _ _ _ h=>absurd h (c a H Q E)⟩,b,F.kp,m⟩
def cy(r:Str×Int):D:=.tup [.str r.1,.int r.2]
def eL(rs:List (Str×Int)):D:=.tup (rs.map cy)
def d_(rs:List (Str×Int)):List (Key×D):=rs.map λr=>(Sum.inr r.1,.int r.2)
structure fy(rs:List (Str×Int)):Prop where
 nm:∀r∈rs,Nm r.1
 no:∀r∈rs,1<=r.2/\r.2<=999999
 up:(rs.map (·.1)).Pairwise strLt
 len:rs.length<64
def val(rs:List (Str×Int))(n:Str):Int:=((rs.find? λr=>r.1=n).map (·.2)).getD 0
def ld(f:Str->Int):M->Int
 |.wt n=>f n
 |.ay _ _ a b=>ld f a+ld f b
theorem B5{a b:Str}(h:strLt a b):a≠b:=λe=>by
 subst e;exact rE _ h
theorem tM:∀(rs:List (Str×Int)) (n:Str),n∈rs.map (·.1)->d9 (d_ rs) (Sum.inr n)=some (.int (val rs n))
 |[],n,h=>by simp at h
 |r::rs,n,h=>by
  unfold d_ d9 val;by_cases e:r.1=n
  .simp[e]
  .have h':n∈rs.map (·.1):=by
    rcases aW.mp (show n∈r.1::rs.map (·.1) from h) with q|q
    .exact absurd q.symm e
    .exact q
   have a:¬(Sum.inr r.1:Key)=Sum.inr n:=λz=>e (Sum.inr.inj z);have:=tM rs n h';simp only[eB,a,dQ,jn,e,decide_false];exact this
theorem Nf{rs:List (Str×Int)}(a:fy rs){n:Str}(h:n∈rs.map (·.1)):1<=val rs n/\val rs n<=999999:=by
 unfold val;cases q:rs.find? λr=>r.1=n with
 |none=>
  obtain⟨r,b,e⟩:=b9.mp h;have:=List.find?_eq_none.mp q r b;simp[e] at this
 |some r=>
  have:=List.mem_of_find?_eq_some q;exact a.no r this
theorem KQ{kvs:List (Key×D)}{k:Key}{v:D}(h:∀p∈kvs,p.1≠k):iK kvs k v=kvs++[(k,v)]:=by
 unfold iK;rw[av];intro z;obtain⟨p,a,e⟩:=List.any_eq_true.mp z;exact h p a (nQ e)
theorem Ai:∀(rs:List (Str×Int)) (acc:List (Key×D)),(rs.map (·.1)).Pairwise strLt->(∀p∈acc,∀r∈rs,p.1≠Sum.inr r.1)->(d_ rs).foldl (λacc p=>iK acc p.1 p.2) acc=acc++d_ rs
 |[],acc,_,_=>by simp[d_]
 |r::rs,acc,d,hn=>by
  have b:=lG.mp (show(r.1::rs.map (·.1)).Pairwise strLt from d);have e:iK acc (Sum.inr r.1) (.int r.2)=acc++[(Sum.inr r.1,.int r.2)]:=KQ λp a=>hn p a r (bJ ..);show(d_ rs).foldl _ (iK acc (Sum.inr r.1) (.int r.2))=_;rw[e,Ai rs _ b.2]
  .simp[d_]
  .intro p a q c
   rcases bF.mp a with z|z
   .exact hn p z q (bE _ c)
   .have f:p=(Sum.inr r.1,.int r.2):=by simpa using z
    subst f;exact λe=>B5 (b.1 q.1 (lF c)) (Sum.inr.inj e)
theorem z5:∀rs:List (Str×Int),ef (rs.map cy)=some (d_ rs)
 |[]=>rfl
 |r::rs=>by
  have:=z5 rs;simp only[eB,cy,ef,jb,this,d_]
theorem sV{rs:List (Str×Int)}(a:fy rs){A:Ar}{R:DK}(k:R (.ref A.length) (A++[.dct (d_ rs)])):dctP (rs.map cy) A R:=by
 unfold dctP;rw[z5];refine⟨by simp[d_];have:=a.len;omega,?_⟩;unfold Ah;rw[Ai rs [] a.up (λp h=>by simp at h)];exact k
theorem yq{a:Ar->Prop}{g:ig}{b:cW}{R:lU}{A:Ar}(hc:a A)(I:bx->Prop):∀(items:List D) (τ:bx),I τ->(∀x∈items,∀τ,I τ->∀c:bx->Ar->Prop,(∀bW,I bW->c bW A)->g x τ A λd j=>b {R with nx:=c,ct:=c,bk:=R.nx} d j)->(∀τ,I τ->R.nx τ A)->kD a g b R items τ A
 |[],τ,e,_,h=>⟨hc,h τ e⟩
 |x::xs,τ,e,i,h=>⟨hc,i x (bJ ..) τ e _ λbW f=>yq hc I xs bW f (λy k=>i y (bE _ k)) h⟩
def jF:M->Str->List (Str×Str)
 |.wt n,w=>[(w,n)]
 |.ay _ _ a b,w=>jF a (w++"l")++jF b (w++"r")
theorem k6:∀(m:M) (w:Str),(jF m w).map (·.2)=m.names
 |.wt n,w=>rfl
 |.ay _ _ a b,w=>by
  show List.map _ (_++_)=a.names++b.names;rw[map_append,k6 a,k6 b]
theorem ug(m:M)(w:Str):(jF m w).length=m.names.length:=by rw[<-k6 m w,bB]
def eS(p:Str×Str):D:=.tup [.str p.1,.str p.2]
abbrev wM:Ct:=SV λds v=>∃r:Str×Int,ds=[cy r]/\Nm r.1/\(1<=r.2/\r.2<=999999)/\v=.bl true
abbrev rW:Ct:=SV λds v=>∃rs,ds=[eL rs]/\fy rs/\v=.bl true
abbrev rV:Ct:=SV λds v=>∃m rs,ds=[enc m,eL rs]/\fy rs/\m.deep<=5/\(∀n∈m.names,n∈rs.map (·.1))/\v=.aM
abbrev rX(d:Nat):Ct:=SL λds v=>∃m w,ds=[enc m,.str w]/\m.deep<d/\w.length+d<=100/\d<=8/\v=(jF m w).map eS
def rY(d:Nat):Ct:=λds A R _=>∃m r rs,ds=[enc m,.ref r]/\A[r]?=some (.dct (d_ rs))/\fy rs/\m.deep<=d/\(∀n∈m.names,n∈rs.map (·.1))/\∀A',Gr A A'->R (.int (ld (val rs) m)) A'
theorem t8(f:Str->Int):∀m:M,(m.names.map f).sum=ld f m
 |.wt n=>by simp[aS.names,ld]
 |.ay _ _ a b=>by
  show List.sum (List.map f (a.names++b.names))=ld f a+ld f b;rw[map_append,List.sum_append,t8 f a,t8 f b]
theorem sL{k:Option Nat}{fr:bx}{te:aK}{a:Ar->Prop}{R:List D->Ar->Prop}(f:D->D):∀(items ys:List D) (A:Ar),(∀A',Gr A A'->a A')->(∀x∈items,∀A',Gr A A'->∃c,nL k x=some c/\∀Q:DK,(∀b,Gr A' b->Q (f x) b)->te (c.map some++fr) A' Q)->ys.length+items.length<=sizeLine->(∀A',Gr A A'->R (ys++items.map f) A')->iX a k fr nJ te R items ys A
 |[],ys,A,hc,_,_,h=>⟨hc A Gr.refl,by simpa using h A Gr.refl⟩
 |x::xs,ys,A,hc,d,e,h=>by
  obtain⟨c,i,j⟩:=d x (bJ ..) A Gr.refl;refine⟨hc A Gr.refl,?_⟩;rw[i];refine j _ λl g1=>⟨by simp at e;omega,sL f xs (ys++[f x]) l (λA' g=>hc A' (g1.trans g)) (λy m A' g=>d y (bE _ m) A' (g1.trans g)) (by simp at e ⊢;omega) (λA' g=>by simpa using h A' (g1.trans g))⟩
theorem Nm.ok{n:Str}(h:Nm n):canLay0 (.str n)=true:=by
 have e:n.cps.all (λc=>decide (c<0x110000))=true:=by
  rw[<-Array.all_toList,ji];intro c hc;have:=h.az c hc;exact dN (by omega)
 simpa[canLay0,strOk] using e
theorem qC:∀ss:List Str,ff (ss.map D.str)=true
 |[]=>rfl
 |s::r=>by simp[ff,eU,qC r]
theorem uI:∀ss:List Str,aU (ss.map D.str)=ss.map PyData.str
 |[]=>rfl
 |s::r=>by simp[aU,toQ,uI r]
theorem t6:∀ss:List Str,(∀n∈ss,Nm n)->canLayAll0 (ss.map PyData.str)=true
 |[],_=>by simp[canLayAll0]
 |s::r,h=>by
  have h1:=(h s (bJ ..)).ok;have h2:=t6 r λn hn=>h n (bE _ hn);simp[canLayAll0,h1,h2]
theorem yj:∀ss:List Str,depthAll (ss.map PyData.str)=0
 |[]=>by simp[depthAll]
 |s::r=>by simp[depthAll,PyData.depth,yj r]
theorem yJ:∀ss a:List Str,eqvAll (ss.map PyData.str) (a.map PyData.str)=decide (ss=a)
 |[],[]=>by simp[eqvAll]
 |[],_::_=>by simp[eqvAll]
 |_::_,[]=>by simp[eqvAll]
 |s::r,t::u=>by
  simp only[eB,eqvAll,PyData.eqv,yJ r u];by_cases h1:s=t
  .by_cases h2:r=u<;>simp[h1,h2]
  .simp[h1]
theorem yF{A:Ar}{r q:Nat}{ss a:List Str}{R:DK}(h1:A[r]?=some (.lst (ss.map D.str)))(h2:A[q]?=some (.lst (a.map D.str)))(b:∀n∈ss,Nm n)(c:∀n∈a,Nm n)(k:R (.bl (decide (ss=a))) A):e8 false (.ref r) (.ref q) A R:=by
 have d:bX A (.ref r)=.list (ss.map PyData.str):=by unfold bX;simp only[h1,uI]
 have e:bX A (.ref q)=.list (a.map PyData.str):=by unfold bX;simp only[h2,uI]
 unfold e8;rw[d,e];refine⟨by unfold fS;simp only[h1,qC],by unfold fS;simp only[h2,qC],by simpa[canLay0] using t6 ss b,by simpa[canLay0] using t6 a c,by simp[PyData.depth,yj],?_⟩;rw[av bR];show R (.bl (PyData.eqv (.list _) (.list _))) A;rw[show PyData.eqv (.list (ss.map PyData.str)) (.list (a.map PyData.str))=decide (ss=a) by simp only[PyData.eqv,yJ]];exact k
theorem HE{A:Ar}{r:Nat}{kvs:List (Key×D)}{y v:D}{k:Key}{R:DK}(h:A[r]?=some (.dct kvs))(hk:jb y=some k)(a:d9 kvs k=some v)(q:R v A):kT r y A R:=by
 unfold kT;simp only[h,hk,a];exact q
theorem G9{A:Ar}{r:Nat}{kvs:List (Key×D)}{y:D}{k:Key}{R:DK}{neg:Bool}(h:A[r]?=some (.dct kvs))(hk:jb y=some k)(q:R (.bl (if neg then !(d9 kvs k).isSome else (d9 kvs k).isSome)) A):inR neg y r A R:=by
 unfold inR;simp only[h,hk];exact q
structure Bk(rs:List (Str×Int))(m:M):Prop where
 ok:fy rs
 nm:∀n∈m.names,n∈rs.map (·.1)
theorem Bk.left{rs:List (Str×Int)}{l r:Int}{a b:M}(h:Bk rs (.ay l r a b)):Bk rs a:=⟨h.ok,λn hn=>h.nm n (by simp[aS.names,hn])⟩
theorem Bk.right{rs:List (Str×Int)}{l r:Int}{a b:M}(h:Bk rs (.ay l r a b)):Bk rs b:=⟨h.ok,λn hn=>h.nm n (by simp[aS.names,hn])⟩
theorem Gr.len{A B:Ar}(a:Gr A B):A.length<=B.length:=by
 obtain⟨T,rfl⟩:=a;simp
def cst(d:Nat):Nat:=5*2 ^ d - 4
theorem D6(d:Nat):cst (d+1)=4+2*cst d:=by
 unfold cst;have:0<2 ^ d:=pow_pos (by decide);rw[jS];omega
theorem D5(d:Nat):1<=cst d:=by
 unfold cst;have:0<2 ^ d:=pow_pos (by decide);omega
structure Dr(t:Nat)(A A':Ar)(n k:Nat):Prop where
 but:cU t A A'
 tw:Tw t (n+k) A'
def wL(d:Nat):Ct:=λds A R _=>∃ns t q nms n,ds=[.fl ns,.ref t,.ref q,.int ((d:Int) - 1)]/\0<d/\q≠t/\A[q]?=some (.lst (nms.map D.str))/\nms≠[]/\(∀x∈nms,Nm x)/\Tw t n A/\n+cst d<=1000000/\∀m A',Wf m->m.deep<d->(∀x∈m.names,x∈nms)->Dr t A A' n (cst d)->R (enc m) A'
def wo(d:Nat):Ct:=λds A R _=>∃m q n,ds=[enc m,.ref q]/\Wf m/\m.deep<d/\d<=8/\Tw q n A/\n+2 ^ d<=1000000/\∀m' A',Wf m'->m'.deep=m.deep->Dr q A A' n (2 ^ d)->R (enc m') A'
abbrev wH(d:Nat):Ct:=SL λds v=>∃m,ds=[enc m]/\m.deep<d/\d<=8/\v=m.names.map D.str
def wQ:Ct:=λds A R _=>∃m,ds=[enc m]/\m.deep<=5/\∀(A':Ar) (r:Nat) (ys:List Str),Gr A A'->A.length<=r->A'[r]?=some (.lst (ys.map D.str))->ys.Pairwise strLt->(∀x,x∈ys↔x∈m.names)->R (.ref r) A'
theorem HF{z:Str}{i:Int}{c:Nat}{A:Ar}{R:DK}(h:bU z.cps.toList i=some c)(a:z.length<=sizeLine)(k:R (.str ⟨#[c]⟩) A):mO (.str z) (.int i) A R:=by
 show(match bU z.cps.toList i with|some c=>z.length<=sizeLine/\R (.str ⟨#[c]⟩) A|none=>False);rw[h];exact⟨a,k⟩
def wX(d:Nat):Ct:=λds A R _=>∃ns t n,ds=[.fl ns,.ref t,.int ((d:Nat):Int)]/\Tw t n A/\n+200<=1000000/\∀m A',Wf m->m.deep<=d->Dr t A A' n 200->R (enc m) A'
theorem D4{d:Nat}(h:d<=4):cst (d+1)<=156:=by
 have e:d=0\/d=1\/d=2\/d=3\/d=4:=by omega
 rcases e with rfl|rfl|rfl|rfl|rfl<;>decide
end DP
namespace DP
open L2
theorem Gr.set{A B:Ar}{r:Nat}{c:C}(g:Gr A B)(h:A.length<=r):Gr A (B.set r c):=by
 obtain⟨T,rfl⟩:=g;exact⟨T.set (r - A.length) c,by rw[vK _ _ h]⟩
open MA
theorem Wf.left{l r:Int}{a b:M}(h:Wf (.ay l r a b)):Wf a:=⟨h.arms.2.2.2.2.1,λn hn=>h.nm n (by simp[aS.names,hn])⟩
theorem Wf.right{l r:Int}{a b:M}(h:Wf (.ay l r a b)):Wf b:=⟨h.arms.2.2.2.2.2,λn hn=>h.nm n (by simp[aS.names,hn])⟩
open MA
def hr2(w:Str)(x y:Int):List (Str×Str):=if y<x then [(w,"left")] else if x<y then [(w,"right")] else []
def fh(f:Str->Int):M->Str->List (Str×Str)
 |.wt _,_=>[]
 |.ay l r a b,w=>hr2 w (l*ld f a) (r*ld f b)++fh f a (w++"l")++fh f b (w++"r")
theorem ze(w:Str)(x y:Int):(hr2 w x y).length<=1:=by
 unfold hr2;split
 .simp
 .split<;>simp
theorem qQ(f:Str->Int):∀(m:M) (w:Str),(fh f m w).length+1<=2 ^ m.deep
 |.wt _,_=>by simp[fh,aS.deep]
 |.ay l r a b,w=>by
  show(hr2 w (l*ld f a) (r*ld f b)++fh f a (w++"l")++fh f b (w++"r")).length+1<=2 ^ (max a.deep b.deep+1);rw[b_,b_,jS];have h1:=ze w (l*ld f a) (r*ld f b);have h2:=qQ f a (w++"l");have h3:=qQ f b (w++"r");have c:2 ^ a.deep<=2 ^ max a.deep b.deep:=dc (by decide) (Nat.le_max_left _ _);have d:2 ^ b.deep<=2 ^ max a.deep b.deep:=dc (by decide) (Nat.le_max_right _ _);omega
theorem sJ{k:Option Nat}{fr:bx}{te:aK}{a:Ar->Prop}{R:List D->Ar->Prop}(J:List D->List D->Ar->Prop)(hc:∀rest ys A,J rest ys A->a A)(d:∀rest ys A,J rest ys A->ys.length<=sizeLine)
  (e:∀x rest ys A,J (x::rest) ys A->∃b,nL k x=some b/\∀Q:DK,(∀y c,J rest (ys++[y]) c->Q y c)->te (b.map some++fr) A Q)(f:∀ys A,J [] ys A->R ys A):∀items ys A,J items ys A->iX a k fr nJ te R items ys A
 |[],ys,A,j=>⟨hc _ _ _ j,f _ _ j⟩
 |x::rest,ys,A,j=>by
  obtain⟨b,h,q⟩:=e _ _ _ _ j;refine⟨hc _ _ _ j,?_⟩;rw[h];refine q _ λy c g=>⟨?_,sJ J hc d e f rest _ _ g⟩;have:=d _ _ _ g;simp at this;omega
end DP
namespace L2
def KW:V->Option Int->Option Int->Hp->VK->Prop:=λx lo hi H Q=>∃z,x=.str z/\z.length<=sizeLine/\Q (.str (Txt.slice z lo hi)) H
theorem LV{X:Cx}:iV X KW:=by
 intro pins s σ H x v f g lo hi m Q I n p r pu h;obtain⟨z,rfl,y,q⟩:=h;obtain⟨t,rfl⟩:=n;refine⟨"str",_,F.slot_str_getitem.lookup,jU _ _ _,?_⟩;obtain⟨o,B,hc,hd⟩:=p;have fin:∀(l u:Option (Int×Tok)),f=partValue l->g=partValue u->l.map (·.1)=lo->u.map (·.1)=hi->wpAny (model X.prog X.w) X.A (getItem (.str z t) (.ref m)) (EP X pins σ Q) X.xe s:=λl u C D c d=>by
  refine wpAny_getItem_str_slice (l:=l) (u:=u) (st:=none) ⟨o,B,hc,by rw[hd,C,D];rfl⟩ rfl ?_;refine post_val_or_str ⟨?_,λt' k=>?_⟩
  .have:=Txt.slice_le z lo hi
   rw[<-c,<-d] at this;exact cM this y
  .refine⟨.str (Txt.slice z lo hi),H,I.kept λb E e=>e,⟨t',?_⟩,q⟩
   rw[<-c,<-d];rfl
 cases r with
 |none=>
  cases pu with
  |none=>exact fin none none rfl rfl rfl rfl
  |int j a=>exact fin none (some (j,a)) rfl rfl rfl rfl
 |int i t1=>
  cases pu with
  |none=>exact fin (some (i,t1)) none rfl rfl rfl rfl
  |int j a=>exact fin (some (i,t1)) (some (j,a)) rfl rfl rfl rfl
end L2
namespace DP
open L2
def u0(x:D)(lo hi:Option Int)(A:Ar)(R:DK):Prop:=match x with
 |.str z=>z.length<=sizeLine/\R (.str (Txt.slice z lo hi)) A
 |_=>False
def Eu(m:aK)(l u:jt):aK:=λτ A R=>m τ A λx A1=>l τ A1 λlo A2=>u τ A2 λhi A3=>u0 x lo hi A3 R
theorem jA{X:Cx}{N:En}{e:Expr}{m:aK}{lo hi:Option Expr}{l u:jt}{p2 pos:Pos}(i:PE X e (up X.mg N m))(j:PO X lo (lD X.mg N l))(n:PO X hi (lD X.mg N u)):PE X (.Subscript e (.Slice lo hi none p2) pos) (up X.mg N (Eu m l u)):=
 cP (Ab LV i j n) λσ H Q q=>by
  obtain⟨A,ι,τ,R,S,q,k⟩:=q;refine⟨A,ι,τ,_,S,q,λx o a H1 v p b g r=>?_⟩;refine⟨o,a,τ,_,S.next b g,p,λD s c H2 t h w=>?_⟩;refine⟨s,c,τ,_,(S.next b g).next h w,t,λE F y G d B C=>?_⟩;have f:=(b.trans h).trans B;cases x with
  |str z=>
   cases r;exact⟨z,rfl,d.1,(k.from f).here C d.2 rfl⟩
  |_=>exact d.elim
end DP
namespace L2
open PySem.SeqAt
def jr(op:CmpOp)(A:Around)(s:Shared)(y x:Value)(b:Bool):Prop:=∀(prog:Program) (w:World) (E:aF) (Q:aF),Q (.bool b) s->wpAny (model prog w) A (richCompare op y x) Q E s
inductive gA(op:CmpOp)(A:Around)(s:Shared)(fin b:Bool):List (Value×Value)->Prop
 |nil:fin=b->gA op A s fin b []
 |eq {y x:Value} {r:List (Value×Value)}:EqAt A s y x true->gA op A s fin b r->gA op A s fin b ((y,x)::r)
 |ne {y x:Value} {r:List (Value×Value)}:EqAt A s y x false->jr op A s y x b->gA op A s fin b ((y,x)::r)
open MeetsSeq MeetsSeq2 MeetsSeq3 SeqRoads2
theorem M4(l b:Addr)(items a:Array Value)(n m:Nat)(dd f:Option Addr)(o i:Array (Option Value))(res:Bool):
  Meets (Builtin.«tuple.__lt__» ⟨[.ref l,.ref b],[]⟩)
   (λA R s=>s.heap.get? l=some {cls:=.type "tuple",dict:=dd,data:=.seq items n,slots:=o}/\s.heap.get? b=some {cls:=.type "tuple",dict:=f,data:=.seq a m,slots:=i}/\
    gA .Lt A.in1 s (decide (items.size<a.size)) res (items.toList.zip a.toList)/\R (.ok (.ret (.bool res))) s):=
 .of_wp λprog w A R s h=>by
  obtain⟨k,g,d,tk,os⟩:=s;obtain⟨p,q,r,h⟩:=h;have f2:=AutoSeq1.sub_tuple_tuple;wp_walk using rB p,rB q,wpAny_forIn_list _ (λrest b s'=>b.1=none/\s'=⟨k,g,d,tk,os⟩/\gA .Lt A.in1 ⟨k,g,d,tk,os⟩ (decide (items.size<a.size)) res rest) _;case turn=>
   rintro ⟨y,x⟩ rest b s' ⟨c,rfl,j⟩;cases j with
   |eq h1 h2=>
    refine ah (h1 prog w _ _ ?_);wp_walk;exact⟨rfl,rfl,h2⟩
   |ne h1 h2=>
    refine ah (h1 prog w _ _ ?_);simp only[Bool.not_false,gx];refine ah (gS ?_);refine ah (h2 prog w _ _ ?_);wp_walk;exact⟨_,rfl,h⟩
  case fin=>
   rintro ⟨t,u⟩ s' ⟨c,rfl,j⟩;simp only at c;subst c;cases j with
   |nil e=>
    wp_walk;exact⟨_,rfl,by rw[<-e] at h;simpa[Builtin.Tuple.tupleCompareSizes] using h⟩
  case h=>
   exact⟨rfl,rfl,r⟩
mutual
def ltQ:PyData->PyData->Option Bool
 |.int i,.int j=>some (decide (i<j))
 |.str x,.str y=>some (decide (x.cps.toList<y.cps.toList))
 |.tuple xs,.tuple ys=>fB xs ys
 |_,_=>none
def fB:List PyData->List PyData->Option Bool
 |[],[]=>some false
 |[],_::_=>some true
 |_::_,[]=>some false
 |x::xs,y::ys=>match PyData.eqv x y with
  |true=>fB xs ys
  |false=>ltQ x y
end
theorem DN(i j:Int)(A:Around)(s:Shared)(a b:Value)(as bs:List Addr)(r:Bool)(e:ltQ (.int i) (.int j)=some r)(ra:Reads s.heap a (.int i) as)(c:Reads s.heap b (.int j) bs):jr .Lt A s a b r:=by
 cases ra;cases c;rw[ltQ] at e;cases e;intro prog w E Q q;exact lt_int q
theorem DO(xs ys:List PyData)(A:Around)(s:Shared)(a b:Value)(as bs:List Addr)(r:Bool)(j:A.units+min (PyData.tuple xs).depth (PyData.tuple ys).depth<cLine)(L:∀e c as bs,ReadsAll s.heap e xs as->ReadsAll s.heap c ys bs->A.in1.units+min (depthAll xs) (depthAll ys)<cLine->gA .Lt A.in1 s (decide (e.length<c.length)) r (e.zip c))(ra:Reads s.heap a (.tuple xs) as)(m:Reads s.heap b (.tuple ys) bs):jr .Lt A s a b r:=by
 cases ra with
 | @tuple l o c n _ f h1 h2 h3 p=>
  cases m with
  | @tuple t o' d n' _ g k1 k2 k3 u=>
   obtain⟨cls,dd,data,v⟩:=o;obtain⟨k,h,data2,i⟩:=o';simp only at h2 h3 k2 k3;subst h2 h3 k2 k3;have L:=L c.toList d.toList _ _ p u (room_in j);intro prog w E Q q;exact richCompare_meets_room (op:=.Lt) ⟨_,h1,rfl⟩ ⟨_,k1,rfl⟩ F.slot_tuple_lt F.entry_tuple_lt (F.args_tuple_lt_2 _ _) (M4 l t c d n n' dd h v i r)
    ⟨h1,k1,by simpa using L,show Value.bool r≠Value.notImplemented/\Q (.bool r) s from⟨(λx=>nomatch x),q⟩⟩ (room_here j)
theorem DR(i j:Str)(A:Around)(s:Shared)(a b:Value)(as bs:List Addr)(r:Bool)(e:ltQ (.str i) (.str j)=some r)(ra:Reads s.heap a (.str i) as)(c:Reads s.heap b (.str j) bs):jr .Lt A s a b r:=by
 cases ra;cases c;rw[ltQ] at e;cases e;intro prog w E Q q;exact lt_str q
theorem Ic{α β:Type}{a:α}{b:β}{u:List α}{v:List β}:decide ((a::u).length<(b::v).length)=decide (u.length<v.length):=by simp
theorem DQ(x y:PyData)(xs ys:List PyData)(A:Around)(s:Shared)(a b:List Value)(as bs:List Addr)(r:Bool)(e:fB (x::xs) (y::ys)=some r)(ra:ReadsAll s.heap a (x::xs) as)(j:ReadsAll s.heap b (y::ys) bs)(k:canLayAll0 (x::xs)=true)(l:canLayAll0 (y::ys)=true)
 (h:A.units+min (depthAll (x::xs)) (depthAll (y::ys))<cLine)
 (m:∀a b as bs,fB xs ys=some r->ReadsAll s.heap a xs as->ReadsAll s.heap b ys bs->canLayAll0 xs=true->canLayAll0 ys=true->A.units+min (depthAll xs) (depthAll ys)<cLine->gA .Lt A s (decide (a.length<b.length)) r (a.zip b))
 (L2:∀u v as bs,ltQ x y=some r->Reads s.heap u x as->Reads s.heap v y bs->x.canLay0=true->y.canLay0=true->A.units+min x.depth y.depth<cLine->jr .Lt A s u v r):gA .Lt A s (decide (a.length<b.length)) r (a.zip b):=by
  have d:x.canLay0=true/\canLayAll0 xs=true:=by simpa[canLayAll0] using k
  have f:y.canLay0=true/\canLayAll0 ys=true:=by simpa[canLayAll0] using l
  cases ra with
  |cons a1 a2=>
   cases j with
   |cons i n=>
    have g:=eqAt_reads x y A s _ _ _ _ a1 i d.1 f.1 (room_head h)
    rw[fB] at e
    cases c:PyData.eqv x y with
    |true=>
     rw[c] at e g
     have L:=m _ _ _ _ e a2 n d.2 f.2 (room_tail h)
     rw[Ic]
     exact .eq g L
    |false=>
     rw[c] at e g
     exact .ne g (L2 _ _ _ _ e a1 i d.1 f.1 (room_head h))
mutual
theorem xJ:∀(d db:PyData) (A:Around) (s:Shared) (a b:Value) (as bs:List Addr) (r:Bool),ltQ d db=some r->Reads s.heap a d as->Reads s.heap b db bs->d.canLay0=true->db.canLay0=true->
  A.units+min d.depth db.depth<cLine->jr .Lt A s a b r
 |.none,db,A,s,_,_,_,_,r,e,ra,c,_,_,_=>by simp[ltQ] at e
 |.bool _,db,A,s,_,_,_,_,r,e,ra,c,_,_,_=>by simp[ltQ] at e
 |.list _,db,A,s,_,_,_,_,r,e,ra,c,_,_,_=>by simp[ltQ] at e
 |.dict _,db,A,s,_,_,_,_,r,e,ra,c,_,_,_=>by simp[ltQ] at e
 |.int i,db,A,s,_,_,_,_,r,e,ra,c,_,_,_=>by
  cases db with
  |int j=>exact DN i j A s _ _ _ _ r e ra c
  |_=>simp[ltQ] at e
 |.str i,db,A,s,_,_,_,_,r,e,ra,c,_,_,_=>by
  cases db with
  |str j=>exact DR i j A s _ _ _ _ r e ra c
  |_=>simp[ltQ] at e
 |.tuple xs,db,A,s,_,_,_,_,r,e,ra,c,f,g,h=>by
  cases db with
  |tuple ys=>exact DO xs ys A s _ _ _ _ r h (λk l as bs h1 h2 h3=>zB xs ys A.in1 s k l as bs r (by rw[ltQ] at e;exact e) h1 h2 f g h3) ra c
  |_=>simp[ltQ] at e
theorem zB:∀(xs ys:List PyData) (A:Around) (s:Shared) (a b:List Value) (as bs:List Addr) (r:Bool),fB xs ys=some r->ReadsAll s.heap a xs as->ReadsAll s.heap b ys bs->canLayAll0 xs=true->canLayAll0 ys=true->
  A.units+min (depthAll xs) (depthAll ys)<cLine->gA .Lt A s (decide (a.length<b.length)) r (a.zip b)
 |[],ys,A,s,_,_,_,_,r,e,ra,c,_,_,_=>by
  cases ys with
  |nil=>cases ra;cases c;rw[fB] at e;cases e;exact .nil (by simp)
  |cons y ys=>cases ra;cases c;rw[fB] at e;cases e;exact .nil (by simp)
 |x::xs,ys,A,s,a,b,as,bs,r,e,ra,c,h,i,j=>by
  cases ys with
  |nil=>cases ra;cases c;rw[fB] at e;cases e;exact .nil (by simp)
  |cons y ys=>exact DQ x y xs ys A s a b as bs r e ra c h i j (λa b as bs h1 h2 h3 d f g=>zB xs ys A s a b as bs r h1 h2 h3 d f g) (λu v as bs h1 h2 h3 d f g=>xJ x y A s u v as bs r h1 h2 h3 d f g)
end
section
variable{prog:Program}{w:World}{A:Around}{E:aF}{s:Shared}
theorem ID{a b:Value}{r:Bool}{Q:aF}(Y:A.handled=none)
  (hc:∀s':Shared,(∀c o,s.heap.get? c=some o->s'.heap.get? c=some o)->jr .Lt A.in1 s' b a r)
  (h:∀h' tk,(∀c o,s.heap.get? c=some o->h'.get? c=some o)->Q (if r=true then b else a) {s with heap:=h',toks:=tk}):
  wpAny (model prog w) A (call (.builtin "min") [a,b]) Q E s:=by
 have f:(toString "min"++toString ".loop":String)="min.loop":=by decide
 refine call_function_tree F.kind_min F.plain_min F.entry_min (F.args_min2 _ _) ?_
 show wpAny _ A.in1 (Builtin.Builtins.bindParams "min" ["key","default"] 0 ⟨[],[]⟩>>=_) _ _ s
 refine ah (wpAny_of_eq (show Builtin.Builtins.bindParams "min" ["key","default"] 0 ⟨[],[]⟩=pure [none,none] from rfl) ?_)
 show wpAny _ A.in1 (newTuple [a,b]>>=_) _ _ s
 refine ah (eu ?_)
 have P:(s.heap.push {cls:= .type "tuple",data:= .seq #[a,b]}).IsTuple s.heap.objs.size #[a,b]:=⟨_,bK _ rfl,rfl,0,rfl⟩
 have G:(s.heap.push {cls:= .type "tuple",data:= .seq #[a,b]}).objs.size=s.heap.objs.size+1:=cS ..
 refine ah (wpAny_pyIter_tuple P ?_)
 refine ah (eu ?_)
 rw[f]
 obtain⟨I,B⟩:∃I,I=(s.heap.push {cls:= .type "tuple",data:= .seq #[a,b]}).objs.size:=⟨_,rfl⟩
 have l:((s.heap.push {cls:= .type "tuple",data:= .seq #[a,b]}).push {cls:= .type "tuple_iterator",data:= .fields #[.ref s.heap.objs.size,.int 0 0]}).IsTupleIter I s.heap.objs.size 0:=by
  rw[B];exact⟨_,bK _ rfl,rfl,rfl⟩
 have m:=P.push {cls:= .type "tuple_iterator",data:= .fields #[.ref s.heap.objs.size,.int 0 0]}
 obtain⟨h1,C⟩:∃h1,h1=(s.heap.push {cls:= .type "tuple",data:= .seq #[a,b]}).push {cls:= .type "tuple_iterator",data:= .fields #[.ref s.heap.objs.size,.int 0 0]}:=⟨_,rfl⟩
 have i:h1.objs.size=I+1:=by rw[C,B];exact cS ..
 have k1:∀c o,s.heap.get? c=some o->h1.get? c=some o:=λc o e=>by rw[C];exact bw _ (bw _ e)
 have n:s.heap.objs.size<I:=by rw[B,G];exact iR _
 rw[<-C] at l m
 show wpAny _ A.in1 (pure _) _ _ {s with heap:=(_:Heap)}
 rw[<-B,<-C]
 have W:=Walks.tuple (prog:=prog) (w:=w) (A:=A.in1) Y I s.heap.objs.size (bq n) #[a,b]
 obtain⟨S,p⟩:∃S,S=h1.objs.size:=⟨_,rfl⟩
 have g:S≠I:=by rw[p,i];exact je (iR _)
 have q:S≠s.heap.objs.size:=by rw[p,i];omega
 have H:∀c o,s.heap.get? c=some o->c≠S/\c≠I:=λc o e=>by
  have:=aQ e
  have T:c<I:=lt_trans this n
  exact⟨bq (by rw[p,i];exact fj T),bq T⟩
 have d:∀{c:Addr},c≠I->c∉[I]:=λh z=>h (by simpa using z)
 refine aB ⟨gq jP _,?_⟩
 rw[<-p]
 have U:(h1.push {cls:= .type "list",data:= .seq #[]}).get? S=some {cls:= .type "list",dict:=none,data:= .seq #[] 0,slots:= #[]}:=by rw[p];exact bK _ rfl
 have t:=W.frame 0 h1 (h1.push {cls:= .type "list",data:= .seq #[]}) ⟨l,m⟩ λb _ o e=>bw _ e
 refine gw F.entry_min_loop ?_
 rw[gY jP _]
 show wpAny _ A.in1 (seqItems? (.ref S)>>=_) _ _ _
 refine ah (lJ U rfl ?_)
 show wpAny _ A.in1 (tryCatch (pyNext (.ref I)) _>>=_) _ _ _
 refine ah (nZ (W.item 0 _ _ _ (by simp) t λv h2 Z hP J k2=> ?_))
 have ev:v=a:=by simpa using hP.symm
 subst ev
 have g2:=k2 S _ (d g) U
 show wpAny _ A.in1 (updateSeq S (λ_=> #[v,v])>>=_) _ _ _
 refine ah ?_
 refine n5 g2 rfl ?_
 rw[f]
 refine aB ⟨gq jP _,?_⟩
 refine gw F.entry_min_loop ?_
 rw[gY jP _]
 show wpAny _ A.in1 (seqItems? (.ref S)>>=_) _ _ _
 refine ah (lJ (h_ _ g2 rfl) rfl ?_)
 show wpAny _ A.in1 (tryCatch (pyNext (.ref I)) _>>=_) _ _ _
 refine ah (nZ (W.item 1 _ _ _ (by simp) (W.frame _ _ _ J λc hcf o e=> ?_) λj h3 Od K u k3=> ?_))
 .refine(jo _ _ (λz:S=c=> ?_)).trans e
  rcases aW.mp hcf with L|hcf
  .exact g (z.trans L)
  .exact q (z.trans (bV.mp hcf))
 have M:j=b:=by simpa using K.symm
 subst M
 have g3:=k3 S _ (d g) (h_ _ g2 rfl)
 have kk:∀c o,s.heap.get? c=some o->h3.get? c=some o:=λc o e=>by
  obtain⟨N,D⟩:=H c o e
  exact k3 c o (d D) ((jo _ _ (Ne.symm N)).trans (k2 c o (d D) (bw _ (k1 c o e))))
 show wpAny _ A.in1 (tryCatch (holding [j,j] (richCompare .Lt j v>>=_)) _>>=_) _ _ _
 refine ah (nZ (fY (ah (hc _ (by exact kk) prog w _ _ ?_))))
 refine ah (fY (jg ?_))
 refine ah (wpAny_letGo (aB ?_))
 have fin:∀(R:Result->Shared->Prop) (x:Value) (k:Heap) (y V:Nat),(∀h' tk,(∀c o,s.heap.get? c=some o->h'.get? c=some o)->R (.ok (.ret x)) {s with heap:=h',toks:=tk})->k.get? S=some {cls:= .type "list",dict:=none,data:= .seq #[x,x] V,slots:= #[]}->(k.IsTupleIter I s.heap.objs.size 2/\k.IsTuple s.heap.objs.size #[v,j])->(∀c o,s.heap.get? c=some o->k.get? c=some o)->
   codeAny (model prog w) A (.builtin "min.loop" ⟨[.ref I,.none,.ref S],[]⟩) R {s with heap:=k,toks:=y}:=by
  intro R x k y V hR X O k4
  refine gw F.entry_min_loop ?_
  rw[gY jP _]
  show wpAny _ A.in1 (seqItems? (.ref S)>>=_) _ _ _
  refine ah (lJ X rfl ?_)
  show wpAny _ A.in1 (tryCatch (pyNext (.ref I)) _>>=_) _ _ _
  refine ah (nZ (W.done _ _ _ O λh5 Oe k5=> ?_))
  have g5:=k5 S _ (d g) X
  show wpAny _ A.in1 (updateSeq S (λ_=> #[])>>=_) _ _ _
  refine ah ?_
  refine n5 g5 rfl (ah (wpAny_letGo (aB ?_)))
  exact hR _ _ λc o e=>by
   obtain⟨N,D⟩:=H c o e
   exact(jo _ _ (Ne.symm N)).trans (k5 c o (d D) (k4 c o e))
 cases r with
 |true=>
  simp only[gx]
  refine ah ?_
  refine n5 g3 rfl (ah (wpAny_letGo ?_))
  rw[f]
  refine aB ⟨gq jP _,fin _ j _ _ _ (λh' tk hk=> ?_) (h_ _ g3 rfl) (W.frame _ _ _ u λc hcf o e=> ?_) λc o e=>(jo _ _ (Ne.symm (H c o e).1)).trans (kk c o e)⟩
  .exact h h' tk hk
  .refine(jo _ _ (λz:S=c=> ?_)).trans e
   rcases aW.mp hcf with L|hcf
   .exact g (z.trans L)
   .exact q (z.trans (bV.mp hcf))
 |false=>
  simp only[fJ,dQ]
  refine ah (wpAny_letGo ?_)
  rw[f]
  refine aB ⟨gq jP _,fin _ v _ _ _ (λh' tk hk=> ?_) g3 u kk⟩
  exact h h' tk hk
end
section
variable{X:Cx}
theorem DI(hc:X.calm=true)(n:X.A.units+64<cLine):cV X (.builtin "min") (λxs H Q=>∃(a b:V) (d e:PyData) (r:Bool),xs=[a,b]/\Dp X.K H a d/\Dp X.K H b e/\d.canLay0=true/\e.canLay0=true/\min e.depth d.depth<=60/\ltQ e d=some r/\Q (if r=true then b else a) H):=by
 intro pins s σ H xs o Q I r h;obtain⟨a,b,d,e,k,rfl,h1,h2,f,g,hd,i,q⟩:=h;obtain⟨u,j,rfl,ra,c⟩:=vals2 r;obtain⟨as,l⟩:=Dp.reads I d a u h1 ra;obtain⟨bs,m⟩:=Dp.reads I e b j h2 c;refine ID (r:=k) (I.ok.hd hc) (λs' kp=>xJ e d X.A.in1 s' _ _ _ _ k i (PyProof.Rows.Reads.keeps kp m) (PyProof.Rows.Reads.keeps kp l) g f ?_) λh' tk kp=>⟨_,H,I.kept kp,?_,q⟩
 .show X.A.units+1+_<_
  omega
 .cases k
  .exact ra
  .exact c
end
end L2
namespace DP
open L2
@[irreducible] def pZ(x y:D)(A:Ar)(R:DK):Prop:=eU x=true/\eU y=true/\(toQ x).canLay0=true/\(toQ y).canLay0=true/\min (toQ y).depth (toQ x).depth<=60/\∃b,ltQ (toQ y) (toQ x)=some b/\R (if b=true then y else x) A
def zL:fm:=λvs A R=>match vs with
 |[x,y]=>pZ x y A R
 |_=>False
theorem EG{mg:au}{K:Frag}:fN mg (λxs H Q=>∃(a b:V) (d e:PyData) (r:Bool),xs=[a,b]/\Dp K H a d/\Dp K H b e/\d.canLay0=true/\e.canLay0=true/\min e.depth d.depth<=60/\ltQ e d=some r/\Q (if r=true then b else a) H) zL:=by
 intro ds A ι H m R Q ra rs h k;unfold zL at h;split at h
 .rename_i x y
  obtain⟨u,_,rfl,c,v,_,rfl,f,rfl⟩:=rs;unfold pZ at h;obtain⟨g,p2,i,j,hd,b,l,q⟩:=h;refine⟨u,v,_,_,b,rfl,RV.dp _ _ g c,RV.dp _ _ p2 f,i,j,hd,l,?_⟩;cases b
  .exact k.here ra q c
  .exact k.here ra q f
 .exact h.elim
@[irreducible] def anyR(r:Nat)(A:Ar)(R:DK):Prop:=match A[r]? with
 |some (.lst xs)=>(match gf xs with
  |some bs=>R (.bl (bs.any id)) A
  |none=>False)
 |_=>False
end DP
end
namespace KO
open PySem PySem.W PyProof.Rows
section
variable{O:KeyOrd}{key:Nat->O.α}{n:Nat}{cmp:Nat->Nat->(Bool->Shared->Prop)->Shared->Prop}{s:Shared}
variable(hc:∀i j,i<n->j<n->∀C:Bool->Shared->Prop,C (O.blt (key i) (key j)) s->cmp i j C s)
include hc
end
end KO
section
open PySem PySem.Spec PyProof.Rows
namespace DP
open L2
theorem aq.B6{mg:au}{ι:Io}{n:Nat}{H:Hp}:∀ns:List Str,aq mg ι n H (ns.map D.str) (ns.map V.str)
 |[]=>rfl
 |x::ns=>⟨_,_,rfl,rfl,aq.B6 ns⟩
end DP
namespace L2
section
variable{X:Cx}
theorem DL:cV X (.type "str") (λxs H Q=>∃i:Int,xs=[.int i]/\i.natAbs.log2<1920/\Q (.str (Str.ofString (toString i))) H):=by
 intro pins s σ H xs b Q I r h;obtain⟨i,rfl,a,q⟩:=h;obtain⟨u,rfl,t,rfl⟩:=vals1 r;exact PySem.P.str_of_int a ⟨.str (Str.ofString (toString i)),H,I.tok _,⟨_,rfl⟩,q⟩
theorem DC:cV X (.type "int") (λxs H Q=>∃(x:Str) (n:Int),xs=[.str x]/\PySem.intText? x=some n/\x.length<=640/\Q (.int n) H):=by
 intro pins s σ H xs b Q I r h;obtain⟨x,n,rfl,hn,a,q⟩:=h;obtain⟨u,rfl,t,rfl⟩:=vals1 r;exact PySem.W.KIN.call_text hn a ⟨.int n,H,I.tok _,⟨_,rfl⟩,q⟩
def AE:V->List V->Hp->VK->Prop:=λx vs H Q=>∃a b:Str,x=.str a/\vs=[.str b]/\Q (.bl (Txt.startswith a b)) H
theorem zM:j9 X "str.startswith" AE:=by
 intro pins s σ H x e v f Q I c d h;obtain⟨a,b,rfl,rfl,q⟩:=h;obtain⟨t,rfl⟩:=c;obtain⟨u,rfl,t',rfl⟩:=d.one;exact SC.startswith ⟨.bl _,H,I,rfl,q⟩
def An:V->List V->Hp->VK->Prop:=λx vs H Q=>∃a b:Str,x=.str a/\vs=[.str b]/\Q (.int (Txt.count a b)) H
theorem uv:j9 X "str.count" An:=by
 intro pins s σ H x e v f Q I c d h;obtain⟨a,b,rfl,rfl,q⟩:=h;obtain⟨t,rfl⟩:=c;obtain⟨u,rfl,t',rfl⟩:=d.one;exact SC.count ⟨.int _,H,I.tok _,⟨_,rfl⟩,q⟩
end
abbrev TJ:=St->Hp->Str->(Str->Hp->Prop)->Prop
def PJ(X:Cx)(es:List Expr)(t:TJ):Prop:=∀(pins:aO) (s:Shared) (σ:St) (H:Hp) (acc:Str) (Q:Str->Hp->Prop),Inv X pins σ H s->t σ H acc Q->
 Joins (model X.prog X.w) X.A X.xe (evalEach es X.env) acc (λout s'=>∃H',Inv X pins σ H' s'/\Q out H') s
def tH:V->Option Str
 |.str y=>some y
 |.int i=>if i.natAbs.log2<1920 then some (Str.ofString (toString i)) else none
 |_=>none
section
variable{X:Cx}{es:List Expr}{t:TJ}{te:TE}{e:Expr}{p pos:Pos}
theorem oF(x y:Str):(x++y).length=x.length+y.length:=lI
theorem Kc:PJ X [] (λσ H acc Q=>Q acc H):=λpins s σ H acc Q I h=>⟨H,I,h⟩
theorem Ka{x:Str}{k:Nat}(h:PJ X es t):PJ X (.Constant (.str x) k p::es) (λσ H acc Q=>acc.length+x.length<=sizeLine/\t σ H (acc++x) Q):=λpins s σ H acc Q I q=>by
 show wpAny _ _ (eval (.Constant (.str x) k p) X.env) _ _ _;exact Calls.Constant_str ⟨x,_,rfl,by rw[oF];exact q.1,h pins _ σ H (acc++x) Q (I.tok _) q.2⟩
theorem Kd(g:PE X e te)(h:PJ X es t):PJ X (.FormattedValue e (-1) none p::es) (λσ H acc Q=>te σ H λv H1=>∃y,tH v=some y/\y.length<=sizeLine/\acc.length+y.length<=sizeLine/\t σ H1 (acc++y) Q):=λpins s σ H acc Q I q=>by
 show wpAny _ _ (eval (.FormattedValue e (-1) none p) X.env) _ _ _;refine wpAny_FormattedValue_plain (aJ (g pins s σ H _ I q) λu k ⟨v,H1,b,f,y,a,j,c,d⟩=>?_);cases v with
 |str z=>
  cases (show some z=some y from a);obtain⟨tk,rfl⟩:=f;refine wpAny_formatField_str ?_ ?_ j
  .exact⟨_,tk,rfl,by rw[oF];exact c,h pins _ σ H1 _ Q b d⟩
  .exact⟨_,_,rfl,by rw[oF];exact c,h pins _ σ H1 _ Q (b.tok _) d⟩
 |int i=>
  obtain⟨tk,rfl⟩:=f;unfold tH at a;simp only at a;split at a
  .rename_i hi
   cases a;refine wpAny_formatField_int hi ?_;exact⟨_,_,rfl,by rw[oF];exact c,h pins _ σ H1 _ Q ((b.tok _).tok _) d⟩
  .cases a
 |_=>cases a
theorem JY{d v2:Expr}{rest:List Expr}(h:PJ X (d::v2::rest) t):PE X (.JoinedStr (d::v2::rest) pos) (λσ H Q=>t σ H Str.empty λout H'=>out.length<=sizeLine/\Q (.str out) H'):=λpins s σ H Q I q=>by
 refine wpAny_JoinedStr (a (h pins s σ H _ _ I q) ?_);rintro out s' ⟨H',f,c,g⟩;exact⟨c,.str out,H',f.tok _,⟨_,rfl⟩,g⟩
where
 a {M:Model} {A:Around} {E:aF}:∀{ps:List (Sem Value)} {acc:Str} {Q b:Str->Shared->Prop} {s:Shared},Joins M A E ps acc Q s->(∀o s',Q o s'->b o s')->Joins M A E ps acc b s
  |[],acc,Q,b,s,h,k=>k _ _ h
  |x::ps,acc,Q,b,s,h,k=>jV h (λv i ⟨y,t,e,c,r⟩=>⟨y,t,e,c,a r k⟩) λ_ _ z=>z
end
end L2
namespace DP
open L2
def B4:fm:=λvs A R=>match vs with
 |[.int i]=>i.natAbs.log2<1920/\R (.str (Str.ofString (toString i))) A
 |_=>False
theorem EM{mg:au}:fN mg (λxs H Q=>∃i:Int,xs=[.int i]/\i.natAbs.log2<1920/\Q (.str (Str.ofString (toString i))) H) B4:=by
 intro ds A ι H a R Q ra rs h k;unfold B4 at h;split at h
 .obtain⟨_,_,rfl,rfl,rfl⟩:=rs
  exact⟨_,rfl,h.1,k.here ra h.2 rfl⟩
 .exact h.elim
def zg:fm:=λvs A R=>match vs with
 |[.str x]=>∃n,PySem.intText? x=some n/\x.length<=640/\R (.int n) A
 |_=>False
theorem EC{mg:au}:fN mg (λxs H Q=>∃(x:Str) (n:Int),xs=[.str x]/\PySem.intText? x=some n/\x.length<=640/\Q (.int n) H) zg:=by
 intro ds A ι H a R Q ra rs h k;unfold zg at h;split at h
 .obtain⟨_,_,rfl,rfl,rfl⟩:=rs
  obtain⟨n,h1,h2,h3⟩:=h;exact⟨_,n,rfl,h1,h2,k.here ra h3 rfl⟩
 .exact h.elim
def Eo(f:f7)(mo:aK)(m:cO):aK:=λτ A R=>mo τ A λx A1=>match x with
 |.str z=>m τ A1 λvs A2=>f (.str z) vs A2 R
 |_=>False
section
variable{X:Cx}{N:En}{e o:Expr}{es:List Expr}{mo:aK}{m:cO}{apos cpos:Pos}{f:f7}{r:V->List V->Hp->VK->Prop}{name:Str}{id:String}
theorem i6(n:PlainAttrs "str")(slot:Slot "str" name id)(g:typeOf (.builtin id)=pure (.type "method_descriptor"))(p:rR X id r)(hd:iU X.mg X.K "str" r f)(s:PE X o (up X.mg N mo))(t:PA X (e::es) (eV X.mg N m))
  (b:attributeBase o name X.env (eval o X.env)=eval o X.env:=by rfl)
  (d:((backTo cpos (starEach (e::es) X.env)).all (λx=> !x.1)&&(backToKw cpos (keywordEach [] X.env)).all (λx=>x.1.isSome)
   &&decide ((e::es).length+([]:List Keyword).length+(if ([]:List Keyword).isEmpty then 0 else 1)<30))=true:=by rfl)
  (c:(apos.endLine==cpos.line)=true:=by rfl)(v:starEach (e::es) X.env=(false,eval e X.env)::starEach es X.env:=by rfl)(a:(backTo cpos (starEach es X.env)).any (·.1)=false:=by rfl):
  PE X (.Call (.Attribute o name apos) (e::es) [] cpos) (up X.mg N (Eo f mo m)):=cP (z9 n slot g p s t b d c v a) λσ H Q q=>by
 obtain⟨A,ι,τ,R,S,q,k⟩:=q
 refine⟨A,ι,τ,_,S,q,λx w h H1 u j l y B=> ?_⟩
 cases x with
 |str z=>
  cases B
  refine⟨rfl,w,h,τ,_,S.next l y,j,λys C i H2 D E F G v2=> ?_⟩
  exact hd (.str z) ys C i H2 _ D R Q G rfl v2 E (k.from (l.trans F))
 |_=>exact j.elim
end
def B0:f7:=λx vs A R=>match x,vs with
 |.str a,[.str b]=>R (.bl (Txt.startswith a b)) A
 |_,_=>False
theorem xZ{mg:au}{K:Frag}:iU mg K "str" AE B0:=by
 intro x ds A ι H u b R Q ra a rs h k;unfold B0 at h;split at h
 .cases a
  obtain⟨_,_,rfl,rfl,rfl⟩:=rs;exact⟨_,_,rfl,rfl,k.here ra h rfl⟩
 .exact h.elim
def xP:f7:=λx vs A R=>match x,vs with
 |.str a,[.str b]=>R (.int (Txt.count a b)) A
 |_,_=>False
theorem sO{mg:au}{K:Frag}:iU mg K "str" An xP:=by
 intro x ds A ι H u b R Q ra a rs h k;unfold xP at h;split at h
 .cases a
  obtain⟨_,_,rfl,rfl,rfl⟩:=rs;exact⟨_,_,rfl,rfl,k.here ra h rfl⟩
 .exact h.elim
abbrev ir:=bx->Ar->Str->(Str->Ar->Prop)->Prop
def lC(mg:au)(N:En)(m:ir):TJ:=λσ H acc Q=>∃A ι τ R,cC mg N A ι τ σ H/\m τ A acc R/\∀out A' ι' H',R out A'->Ext A ι H A' ι' H'->RA mg ι' H' A'->Q out H'
def iC:D->Option Str
 |.str y=>some y
 |.int i=>if i.natAbs.log2<1920 then some (Str.ofString (toString i)) else none
 |_=>none
def Ej:ir:=λ_ A acc R=>R acc A
def Ei(x:Str)(m:ir):ir:=λτ A acc R=>acc.length+x.length<=sizeLine/\m τ A (acc++x) R
def xV(me:aK)(m:ir):ir:=λτ A acc R=>me τ A λv A1=>match iC v with
 |some y=>y.length<=sizeLine/\acc.length+y.length<=sizeLine/\m τ A1 (acc++y) R
 |none=>False
def Ek(m:ir):aK:=λτ A R=>m τ A Str.empty λout A1=>out.length<=sizeLine/\R (.str out) A1
section
variable{X:Cx}{N:En}{es:List Expr}{m:ir}{me:aK}{e:Expr}{p pos:Pos}
theorem PJ.w{t t':TJ}(h:PJ X es t)(w:∀σ H acc Q,t' σ H acc Q->t σ H acc Q):PJ X es t':=λpins s σ H acc Q I q=>h pins s σ H acc Q I (w σ H acc Q q)
theorem yp:PJ X [] (lC X.mg N Ej):=PJ.w Kc λσ H acc Q q=>by
 obtain⟨A,ι,τ,R,S,q,k⟩:=q;exact k acc A ι H q S.ra.refl S.ra
theorem kG{x:Str}{k:Nat}(h:PJ X es (lC X.mg N m)):PJ X (.Constant (.str x) k p::es) (lC X.mg N (Ei x m)):=PJ.w (Ka h) λσ H acc Q q=>by
 obtain⟨A,ι,τ,R,S,q,k⟩:=q;exact⟨q.1,A,ι,τ,R,S,q.2,k⟩
theorem kH(l:PE X e (up X.mg N me))(h:PJ X es (lC X.mg N m)):PJ X (.FormattedValue e (-1) none p::es) (lC X.mg N (xV me m)):=PJ.w (Kd l h) λσ H acc Q q=>by
 obtain⟨A,ι,τ,R,S,q,k⟩:=q;refine⟨A,ι,τ,_,S,q,λv b c H1 u a g n j=>?_⟩;have ev:tH u=iC v\/iC v=none:=by
  cases v with
  |str y=>cases j;exact .inl rfl
  |int i=>cases j;exact .inl rfl
  |_=>exact .inr rfl
 rcases ev with ev|ev
 .cases d:iC v with
  |none=>
   have a:(match iC v with|some y=>y.length<=sizeLine/\acc.length+y.length<=sizeLine/\m τ b (acc++y) R|none=>False):=a;rw[d] at a;exact a.elim
  |some y=>
   have a:(match iC v with|some y=>y.length<=sizeLine/\acc.length+y.length<=sizeLine/\m τ b (acc++y) R|none=>False):=a;rw[d] at a;exact⟨y,ev.trans d,a.1,a.2.1,b,c,τ,R,S.next g n,a.2.2,λout o f H2 r s t=>k out o f H2 r (g.trans s) t⟩
 .have a:(match iC v with|some y=>y.length<=sizeLine/\acc.length+y.length<=sizeLine/\m τ b (acc++y) R|none=>False):=a
  rw[ev] at a;exact a.elim
theorem yc{a v2:Expr}{rest:List Expr}(h:PJ X (a::v2::rest) (lC X.mg N m)):PE X (.JoinedStr (a::v2::rest) pos) (up X.mg N (Ek m)):=cP (JY h) λσ H Q q=>by
 obtain⟨A,ι,τ,R,S,q,k⟩:=q;refine⟨A,ι,τ,_,S,q,λout f c H1 b d e=>⟨b.1,(k.from d).here e b.2 rfl⟩⟩
def AQ(i:Nat)(m:aK):cW:=λR τ A=>match lk τ i with
 |some (.int a)=>m τ A λy A1=>match y with
  |.int b=>R.nx (τ.set i (some (.int (a+b)))) A1
  |_=>False
 |_=>False
theorem E8{i:Nat}{x:Str}{pos':Pos}(h:X.N.Nodup)(hi:X.N[i]?=some x)(j:Loc X.env.scope x)(l:PE X e (up X.mg N me))(m:X.fn x=true\/X.env.scope.names.lookup x=some .local:=by first|exact .inl rfl|exact .inr rfl|assumption):
  PS X (.AugAssign (.Name x pos') .Add e pos) (b7 X.mg N (AQ i me)):=gG (Kp h hi j l Hi m) λQ σ H q=>by
 obtain⟨A,ι,τ,R,S,q,k⟩:=q;unfold AQ at q;cases c:lk τ i with
 |none=>rw[c] at q;exact q.elim
 |some d=>
  rw[c] at q;cases d with
  |int a=>
   obtain⟨v,h1,h2⟩:=S.rs.at' i _ c;cases h2;refine⟨.int a,h1,A,ι,τ,_,S,q,λy r n H1 u f g o p=>?_⟩;cases y with
   |int b=>
    cases p;exact⟨a,b,rfl,rfl,(k.nx.from g).here ((S.next g o).set (d:=.int (a+b)) (v:=.int (a+b)) rfl) f⟩
   |_=>exact f.elim
  |_=>exact q.elim
theorem jB{st:Stmt}:PS X st (b7 X.mg N λ_ _ _=>False):=λpins s σ H D I h=>by
 obtain⟨_,_,_,_,_,z,_⟩:=h;exact z.elim
end
end DP
namespace L2
section
variable{X:Cx}
theorem Jw:aV X (compareOp .In) (λx y H Q=>∃a b:Str,x=.str a/\y=.str b/\Q (.bl (Txt.contains b a)) H):=by
 intro pins s σ H x y v u Q I c d h;obtain⟨a,b,rfl,rfl,q⟩:=h;obtain⟨t,rfl⟩:=c;obtain⟨t',rfl⟩:=d;exact PySem.P.in_str ⟨.bl _,H,I,rfl,q⟩
def rJoin:V->List V->Hp->VK->Prop:=λx vs H Q=>∃(a:Str) (l:Addr) (ss:List Str),x=.str a/\vs=[.ref l]/\H l=some (.lst (ss.map V.str))/\JoinOk a ss=true/\Q (.str (Txt.join a ss)) H
theorem IK:j9 X "str.join" rJoin:=by
 intro pins s σ H x i v j Q I c d h;obtain⟨a,l,ss,rfl,rfl,f,hok,q⟩:=h;obtain⟨t,rfl⟩:=c;obtain⟨u,rfl,ru⟩:=d.one;cases ru;obtain⟨z,its,n,r,m,e⟩:=I.pV f;obtain⟨ls,g,b⟩:=qL ss its r;subst g;refine SC.join (l:=ls) (texts:=ss) ⟨_,e,rfl,n,rfl⟩ b hok λt' k=>?_;exact⟨.str _,H,I.tok _,⟨_,rfl⟩,q⟩
where
 qL:∀(ss:List Str) (its:List Value),Vals (ss.map V.str) its->∃ls:List (Str×Tok),its=strValues ls/\ls.map (·.1)=ss
  |[],its,h=>by cases h;exact⟨[],rfl,rfl⟩
  |x::ss,its,h=>by
   cases h with
   |cons h1 h2=>
    obtain⟨t,rfl⟩:=h1;obtain⟨ls,rfl,b⟩:=qL ss _ h2;exact⟨(x,t)::ls,rfl,by simp[b]⟩
end
def gO(a b:Str):Str×Str×Str:=match Builtin.Str.occurrences a b 0 a.length 1 with
 |i::_=>(Builtin.Str.strSub a 0 i,b,Builtin.Str.strSub a (i+b.length) a.length)
 |[]=>(a,Str.empty,Str.empty)
section
variable{X:Cx}
def AB:V->List V->Hp->VK->Prop:=λx vs H Q=>∃a b:Str,x=.str a/\vs=[.str b]/\(b.length==0)=false/\a.length<=sizeLine/\∀l,H l=none->Q (.ref l) (upd H l (.tup [.str (gO a b).1,.str (gO a b).2.1,.str (gO a b).2.2]))
theorem Inv.Cg{pins:aO}{σ:St}{H:Hp}{s:Shared}{a b c:Str}{t1 f t3:Tok}{k:Nat}(I:Inv X pins σ H s):
  Inv X pins σ (upd H s.heap.objs.size (.tup [.str a,.str b,.str c])) {s with heap:=s.heap.push {cls:=.type "tuple",data:=.seq [.str a t1,.str b f,.str c t3].toArray},toks:=k}:=by
 have hn:H s.heap.objs.size=none:=I.hok.fresh (aI _);refine I.uo (t':=k) (λb o e=>bw _ e) (kc.new hn _) λz o d=>?_;by_cases g:z=s.heap.objs.size
 .subst g
  rw[fX] at d;cases d;refine .inr ⟨λu z=>eZ _ (aQ z),?_⟩;exact⟨by show 3<=sizeLine;decide,[.str a t1,.str b f,.str c t3],.cons ⟨_,rfl⟩ (.cons ⟨_,rfl⟩ (.cons ⟨_,rfl⟩ .nil)),⟨_,bK _ rfl⟩⟩
 .rw[bA g] at d
  exact .inl d
theorem IL:j9 X "str.partition" AB:=by
 intro pins s σ H x j v k Q I d e h;obtain⟨a,b,rfl,rfl,f,g,q⟩:=h;obtain⟨t,rfl⟩:=d;obtain⟨u,rfl,t',rfl⟩:=e.one;have hn:H s.heap.objs.size=none:=I.hok.fresh (aI _);have q:=q _ hn;refine jX PySem.F.slot_str_partition (jU _ _ _) PySem.F.entry_str_partition (PySem.F.args_str_partition_2 _ _) (PySem.meets_str_partition a b t t' f g) ?_;unfold gO at q;cases c:Builtin.Str.occurrences a b 0 a.length 1 with
 |nil=>
  rw[c] at q;exact⟨.ref _,_,I.Cg,rfl,q⟩
 |cons i r=>
  rw[c] at q;exact⟨.ref _,_,I.Cg,rfl,q⟩
end
end L2
namespace DP
open L2
def tP:dh:=λx y A R=>match x,y with
 |.str a,.str b=>R (.bl (Txt.contains b a)) A
 |_,_=>False
theorem EB{mg:au}:cX mg (λx y H Q=>∃a b:Str,x=.str a/\y=.str b/\Q (.bl (Txt.contains b a)) H) tP:=by
 intro x y A ι H u v R Q ra c d h k;unfold tP at h;split at h
 .cases c;cases d
  exact⟨_,_,rfl,rfl,k.here ra h rfl⟩
 .exact h.elim
section
variable{X:Cx}{N:En}{a b:Expr}{pos:Pos}{ma mb:aK}
theorem Ff(c:PE X a (up X.mg N ma))(d:PE X b (up X.mg N mb))(e:behindInMarks .In b=false:=by rfl):PE X (.Compare a [.In] [b] pos) (up X.mg N (dI tP ma mb)):=ya Jw EB c d e
theorem ET{x:Str}{v:Str}{t:Tok}(a:X.mg x=some (.str v t))(b:Gl X x:=by rfl)(hd:(x==("__debug__":Str))=false:=by decide):PE X (.Name x pos) (up X.mg N (dC (.str v))):=
 mC (Aa (v:=.str v) b a ⟨_,rfl⟩ hd) λ_ _ _=>rfl
end
@[irreducible] def joinR(a:Str)(r:Nat)(A:Ar)(R:DK):Prop:=∃ss:List Str,A[r]?=some (.lst (ss.map D.str))/\JoinOk a ss=true/\R (.str (Txt.join a ss)) A
def zm:f7:=λx vs A R=>match x,vs with
 |.str a,[.ref r]=>joinR a r A R
 |_,_=>False
theorem HG{a:Str}{r:Nat}{A:Ar}{R:DK}{ss:List Str}(h:A[r]?=some (.lst (ss.map D.str)))(hok:JoinOk a ss=true)(k:R (.str (Txt.join a ss)) A):joinR a r A R:=by
 unfold joinR;exact⟨ss,h,hok,k⟩
theorem AM{mg:au}{ι:Io}{n:Nat}{H:Hp}:∀(ss:List Str) (a:List V),aq mg ι n H (ss.map D.str) a->a=ss.map V.str
 |[],a,h=>h
 |x::ss,a,h=>by
  obtain⟨v,r,rfl,h1,h2⟩:=h;cases h1;rw[AM ss r h2];rfl
theorem EE{mg:au}{K:Frag}:iU mg K "str" rJoin zm:=by
 intro x ds A ι H u d R Q ra b rs h k;unfold zm at h;split at h
 .cases b
  obtain⟨_,_,rfl,⟨_,rfl⟩,rfl⟩:=rs;unfold joinR at h;obtain⟨ss,h1,h2,h3⟩:=h;obtain⟨xs,a,c⟩:=ra.lst h1;rw[AM ss xs c] at a;exact⟨_,_,ss,rfl,rfl,a,h2,k.here ra h3 rfl⟩
 .exact h.elim
def z6:f7:=λx vs A R=>match x,vs with
 |.str a,[.str b]=>(b.length==0)=false/\a.length<=sizeLine/\R (.tup [.str (gO a b).1,.str (gO a b).2.1,.str (gO a b).2.2]) A
 |_,_=>False
theorem EJ{mg:au}{K:Frag}:iU mg K "str" AB z6:=by
 intro x ds A ι H u c R Q ra a rs h k;unfold z6 at h;split at h
 .cases a
  obtain⟨_,_,rfl,rfl,rfl⟩:=rs;exact⟨_,_,rfl,rfl,h.1,h.2.1,λl b=>m6 (ds:=[.str _,.str _,.str _]) k ra ⟨_,_,rfl,rfl,_,_,rfl,rfl,_,_,rfl,rfl,rfl⟩ h.2.2 b⟩
 .exact h.elim
end DP
namespace L2
section
variable{X:Cx}
def AD:V->List V->Hp->VK->Prop:=λx vs H Q=>∃a b:Str,x=.str a/\vs=[.str b]/\(b.length==0)=false/\a.length<=100000/\(Txt.split a b).length<=sizeLine/\(Builtin.Str.partsBetween a (Builtin.Str.occurrences a b 0 a.length (a.length+1)) b.length).length<=sizeLine/\∀l,H l=none->Q (.ref l) (upd H l (.lst ((Txt.split a b).map V.str)))
theorem Cv:∀ls:List (Str×Tok),Vals ((ls.map (·.1)).map V.str) (strValues ls)
 |[]=>.nil
 |(x,t)::ls=>.cons ⟨t,rfl⟩ (Cv ls)
theorem Inv.t_{pins:aO}{σ:St}{H:Hp}{s:Shared}{ls:List (Str×Tok)}{k:Nat}(I:Inv X pins σ H s)(d:ls.length<=sizeLine):
  Inv X pins σ (upd H s.heap.objs.size (.lst ((ls.map (·.1)).map V.str))) {s with heap:=s.heap.push {cls:=.type "list",data:=.seq (strValues ls).toArray},toks:=k}:=by
 have hn:H s.heap.objs.size=none:=I.hok.fresh (aI _);refine I.uo (t':=k) (λb o e=>bw _ e) (kc.new hn _) λz o a=>?_;by_cases c:z=s.heap.objs.size
 .subst c
  rw[fX] at a;cases a;refine .inr ⟨λu z=>eZ _ (aQ z),?_⟩;exact⟨by rw[bB,bB];exact d,strValues ls,_,Cv ls,bK _ rfl⟩
 .rw[bA c] at a
  exact .inl a
theorem IM:j9 X "str.split" AD:=by
 intro pins s σ H x n v o Q I i j h;obtain⟨a,b,rfl,rfl,g,l,d,f,q⟩:=h;obtain⟨t,rfl⟩:=i;obtain⟨u,rfl,t',rfl⟩:=j.one;have hn:H s.heap.objs.size=none:=I.hok.fresh (aI _);have q:=q _ hn;have m:a.length<=sizeLine:=cM l (by decide);cases h1:(decide (a.length<b.length)||decide (Builtin.Str.strKind a<Builtin.Str.strKind b))
 .cases c:(Builtin.Str.occurrences a b 0 a.length (a.length+1)).isEmpty
  .refine jX ri (jU _ _ _) entry_str_split (args_str_split_2 _ _) (meets_str_split_sep a b t t' h1 g c m f) ?_
   show wants _ _ _ {s with toks:=_,heap:=s.heap.push {cls:=.type "list",data:=.seq (strsFrom s.toks (Builtin.Str.partsBetween a (Builtin.Str.occurrences a b 0 a.length (a.length+1)) b.length)).toArray}};rw[strsFrom_eq];have e:(numbered s.toks (Builtin.Str.partsBetween a (Builtin.Str.occurrences a b 0 a.length (a.length+1)) b.length)).map (·.1)=Txt.split a b:=(numbered_texts _ _).trans ((av (vD h1)).trans (av (vD c))).symm;rw[<-e] at q d;exact⟨.ref _,_,I.t_ (by rw[bB] at d;exact d),rfl,q⟩
  .have e:[(a,t)].map (·.1)=Txt.split a b:=((av (vD h1)).trans (ao c)).symm
   rw[<-e] at q;exact jX ri (jU _ _ _) entry_str_split (args_str_split_2 _ _) (meets_str_split_not_found a b t t' h1 g c) ⟨.ref _,_,I.t_ (ls:=[(a,t)]) (k:=s.toks) (by show 1<=sizeLine;decide),rfl,q⟩
 .have e:[(a,t)].map (·.1)=Txt.split a b:=(ao h1).symm
  rw[<-e] at q;exact jX ri (jU _ _ _) entry_str_split (args_str_split_2 _ _) (meets_str_split_cannot_occur a b t t' h1) ⟨.ref _,_,I.t_ (ls:=[(a,t)]) (k:=s.toks) (by show 1<=sizeLine;decide),rfl,q⟩
end
end L2
namespace DP
open L2
def BZ:f7:=λx vs A R=>match x,vs with
 |.str a,[.str b]=>(b.length==0)=false/\a.length<=100000/\(Txt.split a b).length<=sizeLine/\(Builtin.Str.partsBetween a (Builtin.Str.occurrences a b 0 a.length (a.length+1)) b.length).length<=sizeLine/\R (.ref A.length) (A++[.lst ((Txt.split a b).map D.str)])
 |_,_=>False
theorem EK{mg:au}{K:Frag}:iU mg K "str" AD BZ:=by
 intro x ds A ι H u c R Q ra a rs h k;unfold BZ at h;split at h
 .cases a
  obtain⟨_,_,rfl,rfl,rfl⟩:=rs;exact⟨_,_,rfl,rfl,h.1,h.2.1,h.2.2.1,h.2.2.2.1,λl b=>k7 k ra (aq.B6 _) h.2.2.2.2 b⟩
 .exact h.elim
end DP
end
namespace L2
theorem bh{N P:List PySem.Str}{sc:PySem.Scope}(kind:sc.kind=.function:=by rfl)(co:sc.isCoroutine=false:=by rfl)(gen:sc.isGenerator=false:=by rfl)(nd:N.Nodup:=by decide+kernel)(pre:N.take P.length=P:=by rfl)
 (par:∀x∈P,sc.names.lookup x=some .local\/sc.names.lookup x=some .cell:=by decide+kernel)(uy:∀y∈sc.names,y.2≠ .free:=by decide+kernel):aR N P sc:=⟨kind,co,gen,nd,pre,par,uy⟩
end L2
section
open PySem PySem.Spec PyProof.Rows
namespace DP
open L2
section
variable{X:Cx}{N:En}{pos pos':Pos}{e a b:Expr}{m ma mb:aK}{x:Str}(i:Nat)
theorem dS(a:X.N.Nodup)(b:PE X e (up X.mg N m))(hi:X.N[i]?=some x:=by rfl)(c:Loc X.env.scope x:=by first|exact .inl rfl|exact .inr rfl)(d:swapsWith e (some (.Name x pos')) pos.line X.env=pure false:=by rfl)(f:X.fn x=true\/X.env.scope.names.lookup x=some .local:=by first|exact .inl rfl|exact .inr rfl|assumption):
 PS X (.Assign [.Name x pos'] e pos) (b7 X.mg N (uP i m)):=E_ a hi c b d f
theorem dG(a:X.N.Nodup)(hi:X.N[i]?=some x:=by rfl)(b:Loc X.env.scope x:=by first|exact .inl rfl|exact .inr rfl)(c:X.fn x=true\/X.env.scope.names.lookup x=some .local:=by first|exact .inl rfl|exact .inr rfl|assumption):PG X (.Name x pos) (nN X.mg N (gN i)):=E0 a hi b c
theorem pG(a:X.N.Nodup)(hi:X.N[i]?=some x:=by rfl)(b:Loc X.env.scope x:=by first|exact .inl rfl|exact .inr rfl)(c:X.fn x=true\/X.env.scope.names.lookup x=some .local:=by first|exact .inl rfl|exact .inr rfl|assumption):PG X (.Name x pos) (kO i):=Ac a hi b c
end
section
variable{X:Cx}{N:En}{pos p:Pos}{e a b:Expr}{ma mb:aK}{x:Str}{es:List Expr}{k r n:Nat}{ps:List Str}{S:Ct}{RE:DX}{m:cO}
theorem dX(c:X.A.units+64<cLine)(d:PE X a (up X.mg N ma))(e:PE X b (up X.mg N mb))(f:rT b:=by exact λ_ _=>rfl):PE X (.Subscript a b pos) (up X.mg N (dI mO ma mb)):=EU c d e f
theorem dL(F:aj X.prog X.w X.K X.mg X.base k x ps (ak X.mg n S))(c:ck r X.A)(d:Passes (a_ X.prog X.w) X (EL X.mg N RE))(f:PA X (e::es) (eV X.mg N m))(hk:k<=r:=by omega)(g:Gl X x:=by rfl)(a:(x==("__debug__":Str))=false:=by decide)
 (h:starEach (e::es) X.env=(false,eval e X.env)::starEach es X.env:=by rfl)(b:(backTo pos (starEach es X.env)).any (·.1)=false:=by rfl):
 PE X (.Call (.Name x p) (e::es) [] pos) (up X.mg N (xU n S RE m)):=EO F (c.mono hk) d f g a h b
end
theorem bC{P:Program}{w:World}{K:Frag}{mg:au}{base:Heap}{x:Str}{st:Stmt}{Nm ps:List Str}{k n:Nat}{S:Ct}(T:TopD K mg x st ps)(Sc:aR Nm ps (aH st))
  (b:∀{N:En} {RE:DX} {f:Addr} {a:Value} {B:Around} {outer:List Env} {s:Shared} {H:Hp} {E:XK},ck k (bL (a_ P w) P w K mg base Nm x (aH st) f a B outer s H E).A->
   Raises (bL (a_ P w) P w K mg base Nm x (aH st) f a B outer s H E) (EL mg N RE)->Passes (a_ P w) (bL (a_ P w) P w K mg base Nm x (aH st) f a B outer s H E) (EL mg N RE)->
   (bL (a_ P w) P w K mg base Nm x (aH st) f a B outer s H E).A.units+64<cLine->Nm.Nodup->
   ∃m,cj (bL (a_ P w) P w K mg base Nm x (aH st) f a B outer s H E) (e9 st) (b7 mg N m)/\∀ds A R,S ds A R RE->ds.length=n->m {nx:=λ_ A'=>R .aM A',rt:=R} (iN (Nm.length - n) ds) A)(hn:ps.length=n:=by rfl)(d:ps.length<=Nm.length:=by decide):aj P w K mg base (k+1) x ps (ak mg n S):=
 eN T Sc hn d λN RE f a B outer s H E c e g ds A R h i=>by
  obtain⟨m,h1,h2⟩:=b c e g c.units Sc.nd;exact⟨m,h1,h2 ds A R h i⟩
end DP
end
namespace TS
open PySem PyProof.Rows
def eO:Bool->Keyed->Array Keyed->Nat->Nat->Nat->StateT SortSt Sem (Option Nat):=sortPriv%PySem.Builtin.gallop
def mX:Array Keyed->Array Keyed->StateT SortSt Sem (Array Keyed):=sortPriv%PySem.Builtin.mergeLo
def mW:Array Keyed->Array Keyed->StateT SortSt Sem (Array Keyed):=sortPriv%PySem.Builtin.mergeHi
abbrev bu(st:SortSt)(g:Nat):SortSt:=SortSt.mk' (kindOf st) (arrOf st) (pendingOf st) g (failedOf st)
def kj(left:Bool)(key:Keyed)(arr:Array Keyed)(base i:Nat):StateT SortSt Sem (Option Bool):=do
 let x <-elem' arr (base+i)
 if left then lt' x key else return (<-lt' key x).map (!·)
def oM(left:Bool)(key:Keyed)(arr:Array Keyed)(base n Ih hi0:Nat):StateT SortSt Sem (Option Nat):=do
 let mut lo:=Ih
 let mut hi:=hi0
 for _ in [0:n] do
  if lo≥hi then break
  let m:=lo+(hi - lo)/2
  let some more <-kj left key arr base m|return none
  if more then lo:=m+1 else hi:=m
 return some hi
theorem GK(left:Bool)(key:Keyed)(arr:Array Keyed)(base n hint:Nat):eO left key arr base n hint=(do
 let mut a:=0
 let mut c:=1
 let some right <-kj left key arr base hint|return none
 if right then
  let b:=n - hint
  for _ in [0:n] do
   if c≥b then break
   let some d <-kj left key arr base (hint+c)|return none
   if !d then break
   a:=c
   c:=2*c+1
  oM left key arr base n (hint+a+1) (hint+min c b)
 else
  let b:=hint+1
  for _ in [0:n] do
   if c≥b then break
   let some found <-kj left key arr base (hint - c)|return none
   if found then break
   a:=c
   c:=2*c+1
  oM left key arr base n (hint+1 - min c b) (hint - a)):=rfl
theorem Iw(a b:Array Keyed):mX a b=(do
 rule "list.sort.merge-lo"
 let total:=a.size+b.size
 let done (out:Array Keyed) (c d:Nat):=out++a.extract c a.size++b.extract d b.size
 let g (out:Array Keyed) (c d:Nat):=out++b.extract d b.size++a.extract c a.size
 let mut out:Array Keyed:= #[<-elem' b 0]
 let mut c:=0
 let mut d:=1
 if d==b.size then return done out c d
 if c+1==a.size then return g out c d
 let mut minGallop:=gallopOf (<-get)
 for _ in [0:total] do
  let mut e:=0
  let mut f:=0
  for _ in [0:total] do
   let some h <-lt' (<-elem' b d) (<-elem' a c)|return done out c d
   if h then
    out:=out.push (<-elem' b d);d:=d+1;f:=f+1;e:=0
    if d==b.size then return done out c d
    if f≥minGallop then break
   else
    out:=out.push (<-elem' a c);c:=c+1;e:=e+1;f:=0
    if c+1==a.size then return g out c d
    if e≥minGallop then break
  rule "list.sort.gallop"
  minGallop:=minGallop+1
  for _ in [0:total] do
   if minGallop>1 then minGallop:=minGallop - 1
   modify (λs=>bu s minGallop)
   let some k <-eO false (<-elem' b d) a c (a.size - c) 0|return done out c d
   e:=k
   if k>0 then
    out:=out++a.extract c (c+k);c:=c+k
    if c+1==a.size then return g out c d
    if c==a.size then return done out c d
   out:=out.push (<-elem' b d);d:=d+1
   if d==b.size then return done out c d
   let some k <-eO true (<-elem' a c) b d (b.size - d) 0|return done out c d
   f:=k
   if k>0 then
    out:=out++b.extract d (d+k);d:=d+k
    if d==b.size then return done out c d
   out:=out.push (<-elem' a c);c:=c+1
   if c+1==a.size then return g out c d
   if e<7&&f<7 then break
  minGallop:=minGallop+1
  modify (λs=>bu s minGallop)
 unsupported "internal:list.sort.merge-bound"):=rfl
section
variable{M:Model}{A:Around}{E:aF}{s:Shared}{C:SortKind}
theorem GL{left:Bool}{key:Keyed}{arr:Array Keyed}{base n hint:Nat}{b:Nat->Bool}{st:SortSt}{Q:Option Nat->SortSt->Prop}(hk:kindOf st=C)(u:hint<n)
  (p:∀i,i<n->∀(Q:Option Bool->SortSt->Prop),Q (some (b i)) st->wpS M A E s (kj left key arr base i) Q st)
  (mono:∀i j,i<=j->j<n->b j=true->b i=true)
  (h:∀k,k<=n->(∀i,i<k->b i=true)->(∀i,k<=i->i<n->b i=false)->Q (some k) st):wpS M A E s (eO left key arr base n hint) Q st:=by
 rw[GK]
 dsimp only
 refine aC (p hint u _ ?_)
 dsimp only
 have a:∀i j,i<=j->j<n->b i=false->b j=false:=λi j q v hi=>by
  cases e:b j with
  |false=>rfl
  |true=>rw[mono i j q v e] at hi;cases hi
 have fin:∀lo hi:Nat,lo<=hi->hi<=n->(∀i,i<lo->b i=true)->(∀i,hi<=i->i<n->b i=false)->
   wpS M A E s (oM left key arr base n lo hi) Q st:=λlo hi h1 h2 h3 w=>by
  unfold oM
  dsimp only
  refine aC (ez (I:=λx c d=>d=st/\∃lo hi,c=(none,lo,hi)/\lo<=hi/\hi<=n/\(∀i,i<lo->b i=true)/\(∀i,hi<=i->i<n->b i=false)/\hi - lo<=n - x) ?_ ?_ ⟨rfl,lo,hi,rfl,h1,h2,h3,w,by omega⟩)
  .rintro x c d _ r ⟨rfl,lo,hi,rfl,a1,a2,g,f,y⟩
   dsimp only
   by_cases l:lo≥hi
   .rw[ao l]
    refine aE ?_
    have:lo=hi:=by omega
    subst this
    exact aE (h lo a2 g f)
   .rw[av l]
    refine aC (p _ (by omega) _ ?_)
    dsimp only
    cases m:b (lo+(hi - lo)/2) with
    |true=>exact aE ⟨rfl,_,_,rfl,by omega,a2,λi o=>mono i _ (by omega) (by omega) m,f,by omega⟩
    |false=>exact aE ⟨rfl,_,_,rfl,by omega,by omega,g,λi o hn=>a _ i o hn m,by omega⟩
  .rintro c d ⟨rfl,lo,hi,rfl,a1,a2,g,f,y⟩
   have:lo=hi:=by omega
   subst this
   exact aE (h lo a2 g f)
 cases t:b hint with
 |true=>
  simp only[gx]
  refine aC (ez (I:=λx c d=>d=st/\∃la of,c=(none,la,of)/\la<of/\x+1<=of/\hint+la<n/\b (hint+la)=true) ?_ ?_ ⟨rfl,0,1,rfl,by decide,by omega,by omega,by rw[add_zero];exact t⟩)
  .rintro x c d _ r ⟨rfl,la,of,rfl,a1,a2,g,f⟩
   dsimp only
   by_cases l:of≥n - hint
   .rw[ao l]
    refine aE ?_
    dsimp only
    exact fin (hint+la+1) (hint+min of (n - hint)) (by omega) (by omega) (λi hi=>mono i _ (by omega) g f) (λi h1 h2=>by omega)
   .rw[av l]
    refine aC (p _ (by omega) _ ?_)
    dsimp only
    cases m:b (hint+of) with
    |true=>exact aE ⟨rfl,_,_,rfl,by omega,by omega,by omega,m⟩
    |false=>
     refine aE ?_
     dsimp only
     exact fin (hint+la+1) (hint+min of (n - hint)) (by omega) (by omega) (λi hi=>mono i _ (by omega) g f) (λi h1 h2=>a (hint+of) i (by omega) h2 m)
  .rintro c d ⟨rfl,la,of,rfl,a1,a2,g,f⟩
   dsimp only
   exact fin (hint+la+1) (hint+min of (n - hint)) (by omega) (by omega) (λi hi=>mono i _ (by omega) g f) (λi h1 h2=>by omega)
 |false=>
  simp only[fJ,dQ]
  refine aC (ez (I:=λx c d=>d=st/\∃la of,c=(none,la,of)/\la<of/\x+1<=of/\la<=hint/\b (hint - la)=false) ?_ ?_ ⟨rfl,0,1,rfl,by decide,by omega,by omega,by rw[Nat.sub_zero];exact t⟩)
  .rintro x c d _ r ⟨rfl,la,of,rfl,a1,a2,g,f⟩
   dsimp only
   by_cases l:of≥hint+1
   .rw[ao l]
    refine aE ?_
    dsimp only
    exact fin (hint+1 - min of (hint+1)) (hint - la) (by omega) (by omega) (λi hi=>by omega) (λi h1 h2=>a (hint - la) i h1 h2 f)
   .rw[av l]
    refine aC (p _ (by omega) _ ?_)
    dsimp only
    cases m:b (hint - of) with
    |true=>
     refine aE ?_
     dsimp only
     exact fin (hint+1 - min of (hint+1)) (hint - la) (by omega) (by omega) (λi hi=>mono i (hint - of) (by omega) (by omega) m) (λi h1 h2=>a (hint - la) i h1 h2 f)
    |false=>exact aE ⟨rfl,_,_,rfl,by omega,by omega,by omega,m⟩
  .rintro c d ⟨rfl,la,of,rfl,a1,a2,g,f⟩
   dsimp only
   exact fin (hint+1 - min of (hint+1)) (hint - la) (by omega) (by omega) (λi hi=>by omega) (λi h1 h2=>a (hint - la) i h1 h2 f)
end
section
variable{M:Model}{A:Around}{E:aF}{s:Shared}
theorem cK{arr:Array Keyed}{i:Nat}{st:SortSt}{Q:Keyed->SortSt->Prop}(hi:i<arr.size)(h:Q (arr.toList[i]'hi) st):wpS M A E s (elem' arr i) Q st:=by
 rw[elem'_eq,fZ hi];exact aE h
theorem lE{σ:Type}{r:String}{st:σ}{Q:Unit->σ->Prop}(h:Q () st):wpS M A E s (liftM (rule r):StateT σ Sem Unit) Q st:=
 wpS_lift (gS ⟨rfl,h⟩)
structure Cp(M:Model)(A:Around)(E:aF)(s:Shared)(C:SortKind)(G:Keyed->Prop)(r:Keyed->Keyed->Bool):Prop where
 lt:∀{x y:Keyed} {st:SortSt} {Q:Option Bool->SortSt->Prop},G x->G y->kindOf st=C->Q (some (r x y)) st->wpS M A E s (lt' x y) Q st
 as:∀{x y:Keyed},G x->G y->r x y=true->r y x=false
 tr:∀{x y z:Keyed},G x->G y->G z->r y x=false->r z y=false->r z x=false
end
section
variable{G:Keyed->Prop}{r:Keyed->Keyed->Bool}
abbrev Le(r:Keyed->Keyed->Bool)(x y:Keyed):Prop:=r y x=false
structure MI(G:Keyed->Prop)(r:Keyed->Keyed->Bool)(a b out:List Keyed)(ia ib:Nat):Prop where
 pm:out.Perm (a.take ia++b.take ib)
 so:out.Pairwise (Le r)
 la:∀x∈out,∀y∈a.drop ia,Le r x y
 lb:∀x∈out,∀y∈b.drop ib,Le r x y
theorem mG(a:List Keyed)(i k:Nat):a.drop i=(a.drop i).take k++a.drop (i+k):=by
 rw[<-lP];exact(dY k (a.drop i)).symm
theorem MI.nI{a b out:List Keyed}{d f:Nat}(m:MI G r a b out d f)(k:Nat)(sa:a.Pairwise (Le r))(h:∀x∈(a.drop d).take k,∀y∈b.drop f,Le r x y):
  MI G r a b (out++(a.drop d).take k) (d+k) f:=by
 have e:=mG a d k;have g:(a.drop d).Pairwise (Le r):=sa.sublist (g8 _ _);rw[e,cG] at g;refine⟨?_,?_,?_,?_⟩
 .rw[take_add]
  refine(gV _ m.pm).trans ?_;rw[bz,bz];exact gv _ iO
 .exact cG.mpr ⟨m.so,g.1,λx hx y c=>m.la x hx y (by rw[e];exact j4 _ c)⟩
 .intro x hx y c
  rcases bF.mp hx with hx|hx
  .exact m.la x hx y (by rw[e];exact fk _ c)
  .exact g.2.2 x hx y c
 .intro x hx y c
  rcases bF.mp hx with hx|hx
  .exact m.lb x hx y c
  .exact h x hx y c
theorem MI.lA{a b out:List Keyed}{f d:Nat}(m:MI G r a b out f d)(k:Nat)(sb:b.Pairwise (Le r))(h:∀x∈(b.drop d).take k,∀y∈a.drop f,Le r x y):
  MI G r a b (out++(b.drop d).take k) f (d+k):=by
 have e:=mG b d k;have g:(b.drop d).Pairwise (Le r):=sb.sublist (g8 _ _);rw[e,cG] at g;refine⟨?_,?_,?_,?_⟩
 .rw[take_add,<-bz]
  exact gV _ m.pm
 .exact cG.mpr ⟨m.so,g.1,λx hx y c=>m.lb x hx y (by rw[e];exact j4 _ c)⟩
 .intro x hx y c
  rcases bF.mp hx with hx|hx
  .exact m.la x hx y c
  .exact h x hx y c
 .intro x hx y c
  rcases bF.mp hx with hx|hx
  .exact m.lb x hx y (by rw[e];exact fk _ c)
  .exact g.2.2 x hx y c
abbrev Mg(r:Keyed->Keyed->Bool)(a b out:List Keyed):Prop:=out.Perm (a++b)/\out.Pairwise (Le r)
theorem MI.E6{a b out:List Keyed}{d c:Nat}(m:MI G r a b out d c)(sa:a.Pairwise (Le r))(e:b.length<=c):Mg r a b (out++a.drop d++b.drop c):=by
 rw[jm e,gW];refine⟨?_,cG.mpr ⟨m.so,sa.sublist (g8 _ _),λx f y g=>m.la x f y g⟩⟩;have:=m.pm;rw[fG e] at this;refine(gV _ this).trans ?_;rw[bz];refine(gv _ iO).trans ?_;rw[<-bz,dY]
theorem MI.E5{a b out:List Keyed}{c d:Nat}(m:MI G r a b out c d)(sb:b.Pairwise (Le r))(e:a.length<=c):Mg r a b (out++a.drop c++b.drop d):=by
 rw[jm e,gW];refine⟨?_,cG.mpr ⟨m.so,sb.sublist (g8 _ _),λx f y g=>m.lb x f y g⟩⟩;have:=m.pm;rw[fG e] at this;refine(gV _ this).trans ?_;rw[bz,dY]
theorem MI.HX{a b out:List Keyed}{c d:Nat}(m:MI G r a b out c d)(sa:a.Pairwise (Le r))(sb:b.Pairwise (Le r))(h:∀x∈b.drop d,∀y∈a.drop c,Le r x y):Mg r a b (out++b.drop d++a.drop c):=by
 refine⟨?_,?_⟩
 .rw[bz]
  refine(Perm.append m.pm iO).trans ?_;rw[bz];have e:(a++b).Perm ((a.take c++a.drop c)++(b.take d++b.drop d)):=by rw[dY,dY]
  refine Perm.trans ?_ e.symm;rw[bz];refine gv _ ?_;rw[<-bz,<-bz];exact gV _ iO
 .rw[bz]
  refine cG.mpr ⟨m.so,cG.mpr ⟨sb.sublist (g8 _ _),sa.sublist (g8 _ _),h⟩,?_⟩;intro x f y hy;rcases bF.mp hy with hy|hy
  .exact m.lb x f y hy
  .exact m.la x f y hy
end
abbrev kg:=Option (Array Keyed)×Array Keyed×Nat×Nat×Nat×Nat
abbrev gc:=Option (Array Keyed)×Array Keyed×Nat×Nat×Nat×Nat×Nat
abbrev SM:=StateT SortSt Sem
abbrev gh(a b out:Array Keyed)(ia ib:Nat):Array Keyed:=out++a.extract ia a.size++b.extract ib b.size
abbrev kW(a b out:Array Keyed)(ia ib:Nat):Array Keyed:=out++b.extract ib b.size++a.extract ia a.size
def nD(a b:Array Keyed)(mg:Nat)(c:kg):SM (ForInStep kg):=do
 let y <-elem' b c.2.2.2.1
 let x <-elem' a c.2.2.1
 match <-lt' y x with
 |some w=>
  if w then
   let e <-elem' b c.2.2.2.1
   if c.2.2.2.1+1==b.size then pure (.done (some (gh a b (c.2.1.push e) c.2.2.1 (c.2.2.2.1+1)),c.2.1.push e,c.2.2.1,c.2.2.2.1+1,0,c.2.2.2.2.2+1))
   else if c.2.2.2.2.2+1≥mg then pure (.done (none,c.2.1.push e,c.2.2.1,c.2.2.2.1+1,0,c.2.2.2.2.2+1))
   else pure (.yield (none,c.2.1.push e,c.2.2.1,c.2.2.2.1+1,0,c.2.2.2.2.2+1))
  else
   let e <-elem' a c.2.2.1
   if c.2.2.1+1+1==a.size then pure (.done (some (kW a b (c.2.1.push e) (c.2.2.1+1) c.2.2.2.1),c.2.1.push e,c.2.2.1+1,c.2.2.2.1,c.2.2.2.2.1+1,0))
   else if c.2.2.2.2.1+1≥mg then pure (.done (none,c.2.1.push e,c.2.2.1+1,c.2.2.2.1,c.2.2.2.2.1+1,0))
   else pure (.yield (none,c.2.1.push e,c.2.2.1+1,c.2.2.2.1,c.2.2.2.2.1+1,0))
 |_=>pure (.done (some (gh a b c.2.1 c.2.2.1 c.2.2.2.1),c.2.1,c.2.2.1,c.2.2.2.1,c.2.2.2.2.1,c.2.2.2.2.2))
def g3(a b out:Array Keyed)(ia ib mg k k1:Nat):SM (ForInStep gc):=do
 let e <-elem' a ia
 if ia+1+1==a.size then pure (.done (some (kW a b (out.push e) (ia+1) ib),out.push e,ia+1,ib,mg,k,k1))
 else if decide (k<7)&&decide (k1<7) then pure (.done (none,out.push e,ia+1,ib,mg,k,k1))
 else pure (.yield (none,out.push e,ia+1,ib,mg,k,k1))
def g2(a b out:Array Keyed)(ia ib mg k bc:Nat):SM (ForInStep gc):=do
 let e <-elem' b ib
 if ib+1==b.size then pure (.done (some (gh a b (out.push e) ia (ib+1)),out.push e,ia,ib+1,mg,k,bc))
 else do
  let x <-elem' a ia
  match <-eO true x b (ib+1) (b.size - (ib+1)) 0 with
  |some k1=>
   if k1>0 then
    if ib+1+k1==b.size then pure (.done (some (gh a b (out.push e++b.extract (ib+1) (ib+1+k1)) ia (ib+1+k1)),out.push e++b.extract (ib+1) (ib+1+k1),ia,ib+1+k1,mg,k,k1))
    else g3 a b (out.push e++b.extract (ib+1) (ib+1+k1)) ia (ib+1+k1) mg k k1
   else g3 a b (out.push e) ia (ib+1) mg k k1
  |_=>pure (.done (some (gh a b (out.push e) ia (ib+1)),out.push e,ia,ib+1,mg,k,bc))
def g1(a b out:Array Keyed)(ia ib mg ac bc:Nat):SM (ForInStep gc):=do
 modify (λs=>bu s mg)
 let y <-elem' b ib
 match <-eO false y a ia (a.size - ia) 0 with
 |some k=>
  if k>0 then
   if ia+k+1==a.size then pure (.done (some (kW a b (out++a.extract ia (ia+k)) (ia+k) ib),out++a.extract ia (ia+k),ia+k,ib,mg,k,bc))
   else if ia+k==a.size then pure (.done (some (gh a b (out++a.extract ia (ia+k)) (ia+k) ib),out++a.extract ia (ia+k),ia+k,ib,mg,k,bc))
   else g2 a b (out++a.extract ia (ia+k)) (ia+k) ib mg k bc
  else g2 a b out ia ib mg k bc
 |_=>pure (.done (some (gh a b out ia ib),out,ia,ib,mg,ac,bc))
def nE(a b:Array Keyed)(c:gc):SM (ForInStep gc):=
 if c.2.2.2.2.1>1 then g1 a b c.2.1 c.2.2.1 c.2.2.2.1 (c.2.2.2.2.1 - 1) c.2.2.2.2.2.1 c.2.2.2.2.2.2 else g1 a b c.2.1 c.2.2.1 c.2.2.2.1 c.2.2.2.2.1 c.2.2.2.2.2.1 c.2.2.2.2.2.2
abbrev ju:=Option (Array Keyed)×Array Keyed×Nat×Nat×Nat
def turn(a b:Array Keyed)(c:ju):SM (ForInStep ju):=do
 let c1 <-forIn [0:a.size+b.size] ((none,c.2.1,c.2.2.1,c.2.2.2.1,0,0):kg) λ_ c1=>nD a b c.2.2.2.2 c1
 match c1.1 with
 |some r=>pure (.done (some r,c1.2.1,c1.2.2.1,c1.2.2.2.1,c.2.2.2.2))
 |none=>do
  rule "list.sort.gallop"
  let c2 <-forIn [0:a.size+b.size] ((none,c1.2.1,c1.2.2.1,c1.2.2.2.1,c.2.2.2.2+1,c1.2.2.2.2.1,c1.2.2.2.2.2):gc) λ_ c2=>nE a b c2
  match c2.1 with
  |some r=>pure (.done (some r,c2.2.1,c2.2.2.1,c2.2.2.2.1,c2.2.2.2.2.1))
  |none=>do
   modify (λs=>bu s (c2.2.2.2.2.1+1))
   pure (.yield (none,c2.2.1,c2.2.2.1,c2.2.2.2.1,c2.2.2.2.2.1+1))
theorem Iz(a b:Array Keyed):mX a b=(do
 rule "list.sort.merge-lo"
 let e <-elem' b 0
 if 1==b.size then pure (gh a b #[e] 0 1)
 else if 0+1==a.size then pure (kW a b #[e] 0 1)
 else do
  let st <-get
  let c <-forIn [0:a.size+b.size] ((none,#[e],0,1,gallopOf st):ju) λ_ c=>turn a b c
  match c.1 with
  |some r=>pure r
  |none=>unsupported "internal:list.sort.merge-bound"):=by
 rw[Iw]
 dsimp only[turn,nD,nE,g1,g2,g3,gh,kW]
 congr 1;funext _;congr 1;funext e;congr 1;congr 1;congr 1;funext st;congr 1;congr 1;funext x c;congr 1;funext d;congr 1;
 .cases d.fst with
  |some r=>rfl
  |none=>
   dsimp only
   congr 1;funext _;congr 1
   funext x
   cases x.fst with
   |some r=>rfl
   |none=>rfl
 .funext c
  cases c.fst with
  |some r=>rfl
  |none=>rfl
section
variable{M:Model}{A:Around}{E:aF}{s:Shared}{C:SortKind}{G:Keyed->Prop}{r:Keyed->Keyed->Bool}
abbrev seg(arr:Array Keyed)(base n:Nat):List Keyed:=(arr.toList.drop base).take n
abbrev sr(r:Keyed->Keyed->Bool)(left:Bool)(key x:Keyed):Bool:=if left then r x key else !r key x
theorem lu{arr:Array Keyed}{base n i:Nat}(hi:i<n):(seg arr base n)[i]?=arr.toList[base+i]? :=by
 rw[List.getElem?_take,ao hi,List.getElem?_drop]
theorem kP(cp:Cp M A E s C G r){left:Bool}{key:Keyed}{arr:Array Keyed}{base n hint:Nat}{st:SortSt}{Q:Option Nat->SortSt->Prop}(hk:kindOf st=C)(f:G key)
  (hn:base+n<=arr.size)(v:hint<n)(ga:∀x∈seg arr base n,G x)(sa:(seg arr base n).Pairwise (Le r))
  (h:∀k,k<=n->(∀x∈(seg arr base n).take k,sr r left key x=true)->(∀x∈(seg arr base n).drop k,sr r left key x=false)->Q (some k) st):
  wpS M A E s (eO left key arr base n hint) Q st:=by
 have D:(seg arr base n).length=n:=by
  rw[f6,f5,bH];omega
 have get:∀i,i<n->∃x,arr.toList[base+i]? =some x/\x∈seg arr base n:=λi hi=>by
  have:i<(seg arr base n).length:=by omega
  refine⟨(seg arr base n)[i],?_,cA this⟩
  rw[<-lu hi,bS this]
 refine GL (C:=C) (b:=λi=>match arr.toList[base+i]? with|some x=>sr r left key x|none=>false) hk v ?_ ?_ ?_
 .intro i hi Q o
  obtain⟨x,e,a⟩:=get i hi
  rw[e] at o
  have c:base+i<arr.size:=by omega
  have ex:arr.toList[base+i]=x:=by
   have:=bS (l:=arr.toList) (i:=base+i) (by simpa using c)
   rw[this] at e
   exact Option.some.inj e
  unfold kj
  refine aC (cK c ?_)
  rw[ex]
  cases left with
  |true=>exact cp.lt (ga x a) f hk o
  |false=>
   refine aC (cp.lt f (ga x a) hk ?_)
   exact aE o
 .intro i j w t g
  obtain⟨x,e,a⟩:=get i (by omega)
  obtain⟨y,m,u⟩:=get j t
  rw[m] at g
  rw[e]
  have xy:x=y\/Le r x y:=by
   rcases fL i j with h'|h'
   .right
    have h1:=lu (arr:=arr) (base:=base) (n:=n) (i:=i) (by omega)
    have h2:=lu (arr:=arr) (base:=base) (n:=n) (i:=j) t
    rw[e] at h1;rw[m] at h2
    obtain⟨a1,a2⟩:=cT.mp h1
    obtain⟨z,B⟩:=cT.mp h2
    rw[<-a2,<-B]
    exact lH.mp sa i j a1 z h'
   .left
    have:i=j:=by omega
    subst this
    rw[e] at m;exact Option.some.inj m
  rcases xy with rfl|xy
  .exact g
  .cases left with
   |true=>
    show r x key=true
    cases ex:r x key with
    |true=>rfl
    |false=>
     have:r y key=false:=cp.tr f (ga x a) (ga y u) ex xy
     rw[show r y key=true from g] at this;cases this
   |false=>
    show(!r key x)=true
    have:r key y=false:=by simpa using g
    rw[cp.tr (ga x a) (ga y u) f xy this];rfl
 .intro k p h1 h2
  refine h k p (λx a=> ?_) (λx a=> ?_)
  .obtain⟨i,hi,e⟩:=List.mem_take_iff_getElem.mp a
   have q:i<k:=by omega
   have:=h1 i q
   have d:=lu (arr:=arr) (base:=base) (n:=n) (i:=i) (by omega)
   rw[bS (by omega),e] at d
   rw[<-d] at this
   exact this
  .obtain⟨i,hi,e⟩:=List.mem_drop_iff_getElem.mp a
   have:=h2 (k+i) (by omega) (by omega)
   have d:=lu (arr:=arr) (base:=base) (n:=n) (i:=k+i) (by omega)
   rw[bS (by omega),e] at d
   rw[<-d] at this
   exact this
end
section
variable{M:Model}{A:Around}{E:aF}{s:Shared}{C:SortKind}{G:Keyed->Prop}{r:Keyed->Keyed->Bool}{a b:Array Keyed}
structure MC(G:Keyed->Prop)(r:Keyed->Keyed->Bool)(a b:Array Keyed):Prop where
 ga:∀x∈a.toList,G x
 gb:∀x∈b.toList,G x
 sa:a.toList.Pairwise (Le r)
 sb:b.toList.Pairwise (Le r)
 la:∀x∈b.toList,∀y∈a.toList.drop (a.size - 1),Le r x y
theorem kJ(a:Array Keyed)(i:Nat):(a.extract i a.size).toList=a.toList.drop i:=by
 rw[rj,rD];exact fG (by rw[f5,bH];exact aI _)
theorem tu(a:Array Keyed)(i k:Nat):(a.extract i (i+k)).toList=(a.toList.drop i).take k:=by
 rw[rj,rD,rF]
theorem take1{a:Array Keyed}{i:Nat}(h:i<a.size):(a.toList.drop i).take 1=[a.toList[i]'h]:=by
 rw[List.take_one,List.head?_drop,bS (by simpa using h)];rfl
theorem Im{a:Array Keyed}{i:Nat}(h:i<a.size):a.toList[i]'h∈a.toList.drop i:=
 cZ (i:=1) (by rw[take1 h];exact bV.mpr rfl)
theorem za{a:Array Keyed}{i:Nat}(h:i<a.size)(sa:a.toList.Pairwise (Le r)){x:Keyed}(hx:x∈a.toList.drop i):x=a.toList[i]'h\/Le r (a.toList[i]'h) x:=by
 have e:=mG a.toList i 1;rw[take1 h] at e;have b:(a.toList.drop i).Pairwise (Le r):=sa.sublist (g8 _ _);rw[e] at hx b;rcases bF.mp hx with hx|hx
 .exact .inl (bV.mp hx)
 .exact .inr ((cG.mp b).2.2 _ (bV.mpr rfl) x hx)
variable(cp:Cp M A E s C G r)(mc:MC G r a b)
abbrev Fin(r:Keyed->Keyed->Bool)(a b o:Array Keyed):Prop:=Mg r a.toList b.toList o.toList
abbrev MJ(G:Keyed->Prop)(r:Keyed->Keyed->Bool)(a b o:Array Keyed)(ia ib:Nat):Prop:=MI G r a.toList b.toList o.toList ia ib
include mc
theorem o7{out:Array Keyed}{d c:Nat}(m:MJ G r a b out d c)(h:c=b.size):Fin r a b (gh a b out d c):=by
 show Mg r a.toList b.toList _;rw[ek,ek,kJ,kJ];exact m.E6 mc.sa (by rw[h,bH];exact aI _)
theorem E4{out:Array Keyed}{c d:Nat}(m:MJ G r a b out c d)(h:c=a.size):Fin r a b (gh a b out c d):=by
 show Mg r a.toList b.toList _;rw[ek,ek,kJ,kJ];exact m.E5 mc.sb (by rw[h,bH];exact aI _)
theorem pR{out:Array Keyed}{c d:Nat}(m:MJ G r a b out c d)(h:c+1=a.size):Fin r a b (kW a b out c d):=by
 show Mg r a.toList b.toList _;rw[ek,ek,kJ,kJ];exact m.HX mc.sa mc.sb (λx e y f=>mc.la x (dD e) y (by rw[<-h,add_sub_cancel];exact f))
theorem M0{out:Array Keyed}{c d:Nat}(m:MJ G r a b out c d)(k:Nat)(h:∀x∈(a.toList.drop c).take k,∀y∈b.toList.drop d,Le r x y):MJ G r a b (out++a.extract c (c+k)) (c+k) d:=by
 show MI G r a.toList b.toList _ _ _;rw[ek,tu];exact m.nI k mc.sa h
theorem tkB{out:Array Keyed}{d c:Nat}(m:MJ G r a b out d c)(k:Nat)(h:∀x∈(b.toList.drop c).take k,∀y∈a.toList.drop d,Le r x y):MJ G r a b (out++b.extract c (c+k)) d (c+k):=by
 show MI G r a.toList b.toList _ _ _;rw[ek,tu];exact m.lA k mc.sb h
theorem pA{out:Array Keyed}{c d:Nat}(m:MJ G r a b out c d)(hi:c<a.size)(h:∀y∈b.toList.drop d,Le r (a.toList[c]'hi) y):MJ G r a b (out.push (a.toList[c]'hi)) (c+1) d:=by
 have:=m.nI 1 mc.sa (λx e y f=>by rw[take1 hi] at e;rw[bV.mp e];exact h y f);show MI G r a.toList b.toList _ _ _;rw[jT,<-take1 hi];exact this
theorem pB{out:Array Keyed}{d c:Nat}(m:MJ G r a b out d c)(hi:c<b.size)(h:∀y∈a.toList.drop d,Le r (b.toList[c]'hi) y):MJ G r a b (out.push (b.toList[c]'hi)) d (c+1):=by
 have:=m.lA 1 mc.sb (λx e y f=>by rw[take1 hi] at e;rw[bV.mp e];exact h y f);show MI G r a.toList b.toList _ _ _;rw[jT,<-take1 hi];exact this
include cp
theorem zz{x:Keyed}{b:Nat}(d:G x)(hi:b<a.size)(h:Le r x (a.toList[b]'hi)):∀y∈a.toList.drop b,Le r x y:=λy c=>by
 rcases za hi mc.sa c with rfl|h'
 .exact h
 .exact cp.tr d (mc.ga _ (cA _)) (mc.ga y (dD c)) h h'
theorem leB{x:Keyed}{a:Nat}(d:G x)(hi:a<b.size)(h:Le r x (b.toList[a]'hi)):∀y∈b.toList.drop a,Le r x y:=λy c=>by
 rcases za hi mc.sb c with rfl|h'
 .exact h
 .exact cp.tr d (mc.gb _ (cA _)) (mc.gb y (dD c)) h h'
theorem Mh{out:Array Keyed}{j k ac x mg:Nat}{st:SortSt}{R:ForInStep kg->SortSt->Prop}(hk:kindOf st=C)(m:MJ G r a b out j k)(h1:j+1<a.size)(h2:k<b.size)
  (f:∀o c,Fin r a b o->R (.done (some o,c)) st)
  (go:∀g h i q t,MJ G r a b g h i->h+1<a.size->i<b.size->j+k<h+i->R (.done (none,g,h,i,q,t)) st/\R (.yield (none,g,h,i,q,t)) st):
  wpS M A E s (nD a b mg (none,out,j,k,ac,x)) R st:=by
 have d:j<a.size:=by omega
 have v:=mc.ga _ (cA (l:=a.toList) (n:=j) d)
 have w:=mc.gb _ (cA (l:=b.toList) (n:=k) h2)
 unfold nD
 dsimp only
 refine aC (cK h2 (aC (cK d (aC (cp.lt w v hk ?_)))))
 dsimp only
 cases e:r (b.toList[k]'h2) (a.toList[j]'d) with
 |true=>
  rw[ao rfl]
  refine aC (cK h2 ?_)
  have u:=pB mc m h2 (zz cp mc w d (cp.as w v e))
  by_cases p:k+1=b.size
  .rw[ao (by simpa using p)]
   exact aE (f _ _ (o7 mc u p))
  .rw[av (by simpa using p)]
   have:=go _ _ _ 0 (x+1) u h1 (by omega) (by omega)
   split
   .exact aE this.1
   .exact aE this.2
 |false=>
  rw[av (by simp)]
  refine aC (cK d ?_)
  have u:=pA mc m d (leB cp mc v h2 e)
  by_cases p:j+1+1=a.size
  .rw[ao (by simpa using p)]
   exact aE (f _ _ (pR mc u p))
  .rw[av (by simpa using p)]
   have:=go _ _ _ (ac+1) 0 u (by omega) h2 (by omega)
   split
   .exact aE this.1
   .exact aE this.2
theorem yR{out:Array Keyed}{h j mg k k1:Nat}{st:SortSt}{R:ForInStep gc->SortSt->Prop}(m:MJ G r a b out h j)(h1:h+1<a.size)(h2:j<b.size)(i:h<a.size)(u:∀y∈b.toList.drop j,Le r (a.toList[h]'i) y)
  (f:∀o c,Fin r a b o->R (.done (some o,c)) st)
  (go:∀d e g l n p,MJ G r a b d e g->e+1<a.size->g<b.size->h+j<e+g->R (.done (none,d,e,g,l,n,p)) st/\R (.yield (none,d,e,g,l,n,p)) st):
  wpS M A E s (g3 a b out h j mg k k1) R st:=by
 unfold g3
 refine aC (cK i ?_)
 have t:=pA mc m i u
 by_cases q:h+1+1=a.size
 .rw[ao (by simpa using q)]
  exact aE (f _ _ (pR mc t q))
 .rw[av (by simpa using q)]
  have:=go _ _ _ mg k k1 t (by omega) h2 (by omega)
  split
  .exact aE this.1
  .exact aE this.2
theorem yQ{out:Array Keyed}{u t mg k S:Nat}{st:SortSt}{R:ForInStep gc->SortSt->Prop}(hk:kindOf st=C)(m:MJ G r a b out u t)(h1:u+1<a.size)(h2:t<b.size)(v:∀y∈a.toList.drop u,Le r (b.toList[t]'h2) y)
  (f:∀o c,Fin r a b o->R (.done (some o,c)) st)
  (go:∀e h p w z B,MJ G r a b e h p->h+1<a.size->p<b.size->u+t<h+p->R (.done (none,e,h,p,w,z,B)) st/\R (.yield (none,e,h,p,w,z,B)) st):
  wpS M A E s (g2 a b out u t mg k S) R st:=by
 have q:u<a.size:=by omega
 have O:=mc.ga _ (cA (l:=a.toList) (n:=u) q)
 unfold g2
 refine aC (cK h2 ?_)
 have F:=pB mc m h2 v
 by_cases H:t+1=b.size
 .rw[ao (by simpa using H)]
  exact aE (f _ _ (o7 mc F H))
 .rw[av (by simpa using H)]
  refine aC (cK q ?_)
  have es:seg b (t+1) (b.size - (t+1))=b.toList.drop (t+1):=fG (by rw[f5,bH];exact aI _)
  refine aC (kP cp hk O (by omega) (by omega) (by rw[es];exact λx v=>mc.gb x (dD v)) (by rw[es];exact mc.sb.sublist (g8 _ _)) ?_)
  rw[es]
  intro k1 T t1 I
  rw[lP] at I
  dsimp only
  have P:=tkB mc F k1 (λx v y D=>zz cp mc (mc.gb x (dD (cZ v))) q (cp.as (mc.gb x (dD (cZ v))) O (t1 x v)) y D)
  by_cases Q:k1>0
  .rw[ao Q]
   by_cases J:t+1+k1=b.size
   .rw[ao (by simpa using J)]
    exact aE (f _ _ (o7 mc P J))
   .rw[av (by simpa using J)]
    exact yR cp mc P h1 (by omega) q (λy D=>I y D) f (λo i j g c d K L N U=>go o i j g c d K L N (by omega))
  .rw[av Q]
   have:k1=0:=by omega
   subst this
   exact yR cp mc F h1 (by omega) q (λy D=>I y D) f (λo i j g c d K L N U=>go o i j g c d K L N (by omega))
theorem yP{out:Array Keyed}{e t mg ac L:Nat}{st:SortSt}{R:ForInStep gc->SortSt->Prop}(hk:kindOf st=C)(m:MJ G r a b out e t)(h1:e+1<a.size)(h2:t<b.size)
  (f:∀o c,Fin r a b o->R (.done (some o,c)) (bu st mg))
  (go:∀h p q u v w,MJ G r a b h p q->p+1<a.size->q<b.size->e+t<p+q->R (.done (none,h,p,q,u,v,w)) (bu st mg)/\R (.yield (none,h,p,q,u,v,w)) (bu st mg)):
  wpS M A E s (g1 a b out e t mg ac L) R st:=by
 have N:e<a.size:=by omega
 have I:=mc.gb _ (cA (l:=b.toList) (n:=t) h2)
 unfold g1
 refine aC (fH (aC (cK h2 ?_)))
 have es:seg a e (a.size - e)=a.toList.drop e:=fG (by rw[f5,bH];exact aI _)
 refine aC (kP cp hk I (by omega) (by omega) (by rw[es];exact λx z=>mc.ga x (dD z)) (by rw[es];exact mc.sa.sublist (g8 _ _)) ?_)
 rw[es]
 intro k O t1 J
 rw[lP] at J
 dsimp only
 have D:=M0 mc m k (λx z y B=>leB cp mc (mc.ga x (dD (cZ z))) h2 (by have:=t1 x z;simpa using this) y B)
 have t3:∀y∈a.toList.drop (e+k),Le r (b.toList[t]'h2) y:=λy B=>cp.as I (mc.ga y (dD B)) (by have:=J y B;simpa using this)
 by_cases K:k>0
 .rw[ao K]
  by_cases F:e+k+1=a.size
  .rw[ao (by simpa using F)]
   exact aE (f _ _ (pR mc D F))
  .rw[av (by simpa using F)]
   by_cases H:e+k=a.size
   .rw[ao (by simpa using H)]
    exact aE (f _ _ (E4 mc D H))
   .rw[av (by simpa using H)]
    exact yQ cp mc hk D (by omega) h2 t3 f (λo i j g c d P Q S T=>go o i j g c d P Q S (by omega))
 .rw[av K]
  have:k=0:=by omega
  subst this
  exact yQ cp mc hk m h1 h2 t3 f go
theorem Mi{out:Array Keyed}{t u mg ac z:Nat}{st:SortSt}{R:ForInStep gc->SortSt->Prop}(hk:kindOf st=C)(m:MJ G r a b out t u)(h1:t+1<a.size)(h2:u<b.size)
  (f:∀o c g,Fin r a b o->R (.done (some o,c)) (bu st g))
  (go:∀e h k l n p g,MJ G r a b e h k->h+1<a.size->k<b.size->t+u<h+k->R (.done (none,e,h,k,l,n,p)) (bu st g)/\R (.yield (none,e,h,k,l,n,p)) (bu st g)):
  wpS M A E s (nE a b (none,out,t,u,mg,ac,z)) R st:=by
 unfold nE
 dsimp only
 split
 .exact yP cp mc hk m h1 h2 (λo c q=>f o c _ q) (λo i j g c d v w x y=>go o i j g c d _ v w x y)
 .exact yP cp mc hk m h1 h2 (λo c q=>f o c _ q) (λo i j g c d v w x y=>go o i j g c d _ v w x y)
end
def vn(a b:Array Keyed)(mY:Nat)(c1:kg):SM (ForInStep ju):=
 match c1.1 with
 |some r=>pure (.done (some r,c1.2.1,c1.2.2.1,c1.2.2.2.1,mY))
 |none=>do
  rule "list.sort.gallop"
  let c2 <-forIn [0:a.size+b.size] ((none,c1.2.1,c1.2.2.1,c1.2.2.2.1,mY+1,c1.2.2.2.2.1,c1.2.2.2.2.2):gc) λ_ c2=>nE a b c2
  match c2.1 with
  |some r=>pure (.done (some r,c2.2.1,c2.2.2.1,c2.2.2.2.1,c2.2.2.2.2.1))
  |none=>do
   modify (λs=>bu s (c2.2.2.2.2.1+1))
   pure (.yield (none,c2.2.1,c2.2.2.1,c2.2.2.2.1,c2.2.2.2.2.1+1))
theorem M5(a b:Array Keyed)(c:ju):turn a b c=(do
 let d <-forIn [0:a.size+b.size] ((none,c.2.1,c.2.2.1,c.2.2.2.1,0,0):kg) λ_ d=>nD a b c.2.2.2.2 d
 vn a b c.2.2.2.2 d):=rfl
section
variable{M:Model}{A:Around}{E:aF}{s:Shared}{C:SortKind}{G:Keyed->Prop}{r:Keyed->Keyed->Bool}{a b:Array Keyed}
variable(cp:Cp M A E s C G r)(mc:MC G r a b)
include cp mc
theorem Ck{out:Array Keyed}{n p mg u v:Nat}{st:SortSt}{R:ForInStep ju->SortSt->Prop}(hk:kindOf st=C)(m:MJ G r a b out n p)(h1:n+1<a.size)(h2:p<b.size)
  (f:∀o c g,Fin r a b o->R (.done (some o,c)) (bu st g))
  (go:∀h d e k g,MJ G r a b h d e->d+1<a.size->e<b.size->n+p<d+e->R (.yield (none,h,d,e,k)) (bu st g)):
  wpS M A E s (vn a b mg (none,out,n,p,u,v)) R st:=by
 unfold vn
 dsimp only
 refine aC (lE ?_)
 refine aC (ez (I:=λx c l=>∃g,l=bu st g/\∃o i j q u v,c=(none,o,i,j,q,u,v)/\MJ G r a b o i j/\i+1<a.size/\j<b.size/\n+p+x<=i+j) ?_ ?_ ⟨gallopOf st,rfl,out,n,p,_,_,_,rfl,m,h1,h2,by omega⟩)
 .rintro x c l _ O ⟨g,rfl,o,i,j,q,u,v,rfl,t,w,y,F⟩
  refine Mi cp mc hk t w y ?_ ?_
  .intro o' c g' H
   dsimp only
   exact aE (f _ _ _ H)
  .intro o' J K k L N g' z B D P
   refine⟨?_,⟨g',rfl,o',J,K,k,L,N,rfl,z,B,D,by omega⟩⟩
   dsimp only
   refine aC (fH (aE ?_))
   exact go _ _ _ _ _ z B D (by omega)
 .rintro c l ⟨g,rfl,o,i,j,q,u,v,rfl,t,w,y,F⟩
  dsimp only
  refine aC (fH (aE ?_))
  exact go _ _ _ _ _ t w y (by omega)
theorem M7{out:Array Keyed}{l n mg:Nat}{st:SortSt}{R:ForInStep ju->SortSt->Prop}(hk:kindOf st=C)(m:MJ G r a b out l n)(h1:l+1<a.size)(h2:n<b.size)
  (f:∀o c g,Fin r a b o->R (.done (some o,c)) (bu st g))
  (go:∀h d e q g,MJ G r a b h d e->d+1<a.size->e<b.size->l+n<d+e->R (.yield (none,h,d,e,q)) (bu st g)):
  wpS M A E s (turn a b (none,out,l,n,mg)) R st:=by
 rw[M5]
 dsimp only
 refine aC (ez (I:=λx c k=>∃g,k=bu st g/\∃o i j u v,c=(none,o,i,j,u,v)/\MJ G r a b o i j/\i+1<a.size/\j<b.size/\l+n+x<=i+j) ?_ ?_ ⟨gallopOf st,rfl,out,l,n,0,0,rfl,m,h1,h2,by omega⟩)
 .rintro x c k _ P ⟨g,rfl,o,i,j,u,v,rfl,t,w,y,H⟩
  refine Mh cp mc hk t w y ?_ ?_
  .intro o' c p
   exact aE (f _ _ _ p)
  .intro o' J K L N B D F Q
   refine⟨?_,⟨g,rfl,o',J,K,L,N,rfl,B,D,F,by omega⟩⟩
   exact Ck cp mc hk B D F (λo c g p=>f o c g p) (λo i j m g a1 a2 z O=>go o i j m g a1 a2 z (by omega))
 .rintro c k ⟨g,rfl,o,i,j,u,v,rfl,t,w,y,H⟩
  exact Ck cp mc hk t w y (λo c g p=>f o c g p) (λo i j m g a1 a2 z O=>go o i j m g a1 a2 z (by omega))
theorem IA{st:SortSt}{Q:Array Keyed->SortSt->Prop}(hk:kindOf st=C)(na:0<a.size)(nb:0<b.size)(h1:∀y∈b.toList.take 1,∀x∈a.toList,Le r y x)
  (h:∀out g,Fin r a b out->Q out (bu st g)):wpS M A E s (mX a b) Q st:=by
 rw[Iz];refine aC (lE ?_);refine aC (cK nb ?_);have m0:MJ G r a b #[b.toList[0]'nb] 0 1:=by
  have m:MI G r a.toList b.toList [] 0 0:=⟨by simp,Pairwise.nil,λx e=>by simp at e,λx e=>by simp at e⟩;have:=m.lA 1 mc.sb (λx e y u=>h1 x (by simpa using e) y (by simpa using u));rw[take1 nb] at this;exact this
 by_cases f:1=b.size
 .rw[ao (by simpa using f)]
  exact aE (h _ (gallopOf st) (o7 mc m0 f))
 .rw[av (by simpa using f)]
  by_cases k:0+1=a.size
  .rw[ao (by simpa using k)]
   exact aE (h _ (gallopOf st) (pR mc m0 k))
  .rw[av (by simpa using k)]
   refine aC (gU ?_);refine aC (ez (I:=λx c d=>∃g,d=bu st g/\∃o i j q,c=(none,o,i,j,q)/\MJ G r a b o i j/\i+1<a.size/\j<b.size/\x+1<=i+j) ?_ ?_ ⟨gallopOf st,rfl,_,0,1,_,rfl,m0,by omega,by omega,by omega⟩)
   .rintro x c d _ e ⟨g,rfl,o,i,j,q,rfl,n,p,t,v⟩
    refine M7 cp mc hk n p t ?_ ?_
    .intro o' c g' w
     exact aE (h _ _ w)
    .intro o' z B l g' D F H J
     exact⟨g',rfl,o',z,B,l,rfl,D,F,H,by omega⟩
   .rintro c d ⟨g,rfl,o,i,j,q,rfl,n,p,t,v⟩
    exfalso;omega
end
theorem Ir(a b:Array Keyed):mW a b=(do
 rule "list.sort.merge-hi"
 let total:=a.size+b.size
 let done (out:Array Keyed) (na nb:Nat):=a.extract 0 na++b.extract 0 nb++out.reverse
 let c (out:Array Keyed) (na nb:Nat):=b.extract 0 nb++a.extract 0 na++out.reverse
 let mut na:=a.size - 1
 let mut nb:=b.size
 let mut out:Array Keyed:= #[<-elem' a na]
 if na==0 then return done out na nb
 if nb==1 then return c out na nb
 let mut minGallop:=gallopOf (<-get)
 for _ in [0:total] do
  let mut d:=0
  let mut e:=0
  for _ in [0:total] do
   let some f <-lt' (<-elem' b (nb - 1)) (<-elem' a (na - 1))|return done out na nb
   if f then
    na:=na - 1;out:=out.push (<-elem' a na);d:=d+1;e:=0
    if na==0 then return done out na nb
    if d≥minGallop then break
   else
    nb:=nb - 1;out:=out.push (<-elem' b nb);e:=e+1;d:=0
    if nb==1 then return c out na nb
    if e≥minGallop then break
  rule "list.sort.gallop"
  minGallop:=minGallop+1
  for _ in [0:total] do
   if minGallop>1 then minGallop:=minGallop - 1
   modify (λs=>bu s minGallop)
   let some at_ <-eO false (<-elem' b (nb - 1)) a 0 na (na - 1)|return done out na nb
   let k:=na - at_
   d:=k
   if k>0 then
    out:=out++(a.extract at_ na).reverse;na:=at_
    if na==0 then return done out na nb
   nb:=nb - 1;out:=out.push (<-elem' b nb)
   if nb==1 then return c out na nb
   let some at_ <-eO true (<-elem' a (na - 1)) b 0 nb (nb - 1)|return done out na nb
   let k:=nb - at_
   e:=k
   if k>0 then
    out:=out++(b.extract at_ nb).reverse;nb:=at_
    if nb==1 then return c out na nb
    if nb==0 then return done out na nb
   na:=na - 1;out:=out.push (<-elem' a na)
   if na==0 then return done out na nb
   if d<7&&e<7 then break
  minGallop:=minGallop+1
  modify (λs=>bu s minGallop)
 unsupported "internal:list.sort.merge-bound"):=rfl
abbrev gF(a b out:Array Keyed)(na nb:Nat):Array Keyed:=a.extract 0 na++b.extract 0 nb++out.reverse
abbrev kK(a b out:Array Keyed)(na nb:Nat):Array Keyed:=b.extract 0 nb++a.extract 0 na++out.reverse
abbrev lX:=Option (Array Keyed)×Nat×Nat×Array Keyed×Nat×Nat
abbrev gy:=Option (Array Keyed)×Nat×Nat×Array Keyed×Nat×Nat×Nat
abbrev j7:=Option (Array Keyed)×Nat×Nat×Array Keyed×Nat
def pF(a b:Array Keyed)(mg:Nat)(c:lX):SM (ForInStep lX):=do
 let y <-elem' b (c.2.2.1 - 1)
 let x <-elem' a (c.2.1 - 1)
 match <-lt' y x with
 |some w=>
  if w then
   let e <-elem' a (c.2.1 - 1)
   if c.2.1 - 1==0 then pure (.done (some (gF a b (c.2.2.2.1.push e) (c.2.1 - 1) c.2.2.1),c.2.1 - 1,c.2.2.1,c.2.2.2.1.push e,c.2.2.2.2.1+1,0))
   else if c.2.2.2.2.1+1≥mg then pure (.done (none,c.2.1 - 1,c.2.2.1,c.2.2.2.1.push e,c.2.2.2.2.1+1,0))
   else pure (.yield (none,c.2.1 - 1,c.2.2.1,c.2.2.2.1.push e,c.2.2.2.2.1+1,0))
  else
   let e <-elem' b (c.2.2.1 - 1)
   if c.2.2.1 - 1==1 then pure (.done (some (kK a b (c.2.2.2.1.push e) c.2.1 (c.2.2.1 - 1)),c.2.1,c.2.2.1 - 1,c.2.2.2.1.push e,0,c.2.2.2.2.2+1))
   else if c.2.2.2.2.2+1≥mg then pure (.done (none,c.2.1,c.2.2.1 - 1,c.2.2.2.1.push e,0,c.2.2.2.2.2+1))
   else pure (.yield (none,c.2.1,c.2.2.1 - 1,c.2.2.2.1.push e,0,c.2.2.2.2.2+1))
 |_=>pure (.done (some (gF a b c.2.2.2.1 c.2.1 c.2.2.1),c.2.1,c.2.2.1,c.2.2.2.1,c.2.2.2.2.1,c.2.2.2.2.2))
def h3(a b out:Array Keyed)(na nb mg k k1:Nat):SM (ForInStep gy):=do
 let e <-elem' a (na - 1)
 if na - 1==0 then pure (.done (some (gF a b (out.push e) (na - 1) nb),na - 1,nb,out.push e,mg,k,k1))
 else if decide (k<7)&&decide (k1<7) then pure (.done (none,na - 1,nb,out.push e,mg,k,k1))
 else pure (.yield (none,na - 1,nb,out.push e,mg,k,k1))
def h2(a b out:Array Keyed)(na nb mg k bc:Nat):SM (ForInStep gy):=do
 let e <-elem' b (nb - 1)
 if nb - 1==1 then pure (.done (some (kK a b (out.push e) na (nb - 1)),na,nb - 1,out.push e,mg,k,bc))
 else do
  let x <-elem' a (na - 1)
  match <-eO true x b 0 (nb - 1) (nb - 1 - 1) with
  |some at_=>
   if nb - 1 - at_>0 then
    if at_==1 then pure (.done (some (kK a b (out.push e++(b.extract at_ (nb - 1)).reverse) na at_),na,at_,out.push e++(b.extract at_ (nb - 1)).reverse,mg,k,nb - 1 - at_))
    else if at_==0 then pure (.done (some (gF a b (out.push e++(b.extract at_ (nb - 1)).reverse) na at_),na,at_,out.push e++(b.extract at_ (nb - 1)).reverse,mg,k,nb - 1 - at_))
    else h3 a b (out.push e++(b.extract at_ (nb - 1)).reverse) na at_ mg k (nb - 1 - at_)
   else h3 a b (out.push e) na (nb - 1) mg k (nb - 1 - at_)
  |_=>pure (.done (some (gF a b (out.push e) na (nb - 1)),na,nb - 1,out.push e,mg,k,bc))
def h1(a b out:Array Keyed)(na nb mg ac bc:Nat):SM (ForInStep gy):=do
 modify (λs=>bu s mg)
 let y <-elem' b (nb - 1)
 match <-eO false y a 0 na (na - 1) with
 |some at_=>
  if na - at_>0 then
   if at_==0 then pure (.done (some (gF a b (out++(a.extract at_ na).reverse) at_ nb),at_,nb,out++(a.extract at_ na).reverse,mg,na - at_,bc))
   else h2 a b (out++(a.extract at_ na).reverse) at_ nb mg (na - at_) bc
  else h2 a b out na nb mg (na - at_) bc
 |_=>pure (.done (some (gF a b out na nb),na,nb,out,mg,ac,bc))
def pH(a b:Array Keyed)(c:gy):SM (ForInStep gy):=
 if c.2.2.2.2.1>1 then h1 a b c.2.2.2.1 c.2.1 c.2.2.1 (c.2.2.2.2.1 - 1) c.2.2.2.2.2.1 c.2.2.2.2.2.2 else h1 a b c.2.2.2.1 c.2.1 c.2.2.1 c.2.2.2.2.1 c.2.2.2.2.2.1 c.2.2.2.2.2.2
def pI(a b:Array Keyed)(mY:Nat)(c1:lX):SM (ForInStep j7):=
 match c1.1 with
 |some r=>pure (.done (some r,c1.2.1,c1.2.2.1,c1.2.2.2.1,mY))
 |none=>do
  rule "list.sort.gallop"
  let c2 <-forIn [0:a.size+b.size] ((none,c1.2.1,c1.2.2.1,c1.2.2.2.1,mY+1,c1.2.2.2.2.1,c1.2.2.2.2.2):gy) λ_ c2=>pH a b c2
  match c2.1 with
  |some r=>pure (.done (some r,c2.2.1,c2.2.2.1,c2.2.2.2.1,c2.2.2.2.2.1))
  |none=>do
   modify (λs=>bu s (c2.2.2.2.2.1+1))
   pure (.yield (none,c2.2.1,c2.2.2.1,c2.2.2.2.1,c2.2.2.2.2.1+1))
def hturn(a b:Array Keyed)(c:j7):SM (ForInStep j7):=do
 let c1 <-forIn [0:a.size+b.size] ((none,c.2.1,c.2.2.1,c.2.2.2.1,0,0):lX) λ_ c1=>pF a b c.2.2.2.2 c1
 pI a b c.2.2.2.2 c1
theorem Iu(a b:Array Keyed):mW a b=(do
 rule "list.sort.merge-hi"
 let e <-elem' a (a.size - 1)
 if a.size - 1==0 then pure (gF a b #[e] (a.size - 1) b.size)
 else if b.size==1 then pure (kK a b #[e] (a.size - 1) b.size)
 else do
  let st <-get
  let c <-forIn [0:a.size+b.size] ((none,a.size - 1,b.size,#[e],gallopOf st):j7) λ_ c=>hturn a b c
  match c.1 with
  |some r=>pure r
  |none=>unsupported "internal:list.sort.merge-bound"):=by
 rw[Ir]
 dsimp only[hturn,pI,pF,pH,h1,h2,h3,gF,kK]
 congr 1;funext _;congr 1;funext e;congr 1;congr 1;congr 1;funext st;congr 1;congr 1;funext x c;congr 1;funext d;congr 1
 .cases d.fst with
  |some r=>rfl
  |none=>
   dsimp only
   congr 1;funext _;congr 1
   funext x
   cases x.fst with
   |some r=>rfl
   |none=>rfl
 .funext c
  cases c.fst with
  |some r=>rfl
  |none=>rfl
section
variable{G:Keyed->Prop}{r:Keyed->Keyed->Bool}
structure MH(r:Keyed->Keyed->Bool)(a b tl:List Keyed)(na nb:Nat):Prop where
 pm:tl.Perm (a.drop na++b.drop nb)
 so:tl.Pairwise (Le r)
 la:∀x∈a.take na,∀y∈tl,Le r x y
 lb:∀x∈b.take nb,∀y∈tl,Le r x y
abbrev mid(a:List Keyed)(at_ na:Nat):List Keyed:=(a.drop at_).take (na - at_)
theorem vj(a:List Keyed){at_ na:Nat}(h:at_<=na):a.take na=a.take at_++mid a at_ na:=by
 have:=take_add (l:=a) (i:=at_) (j:=na - at_);rw[Nat.add_sub_cancel' h] at this;exact this
theorem zK(a:List Keyed){at_ na:Nat}(h:at_<=na):a.drop at_=mid a at_ na++a.drop na:=by
 have:=mG a at_ (na - at_);rw[Nat.add_sub_cancel' h] at this;exact this
theorem MH.nI{a b tl:List Keyed}{na nb at_:Nat}(m:MH r a b tl na nb)(h:at_<=na)(sa:a.Pairwise (Le r))(d:∀x∈b.take nb,∀y∈mid a at_ na,Le r x y):MH r a b (mid a at_ na++tl) at_ nb:=by
 have e:=vj a h;have st:(a.take na).Pairwise (Le r):=sa.sublist (gu _ _);rw[e,cG] at st;refine⟨?_,?_,?_,?_⟩
 .rw[zK a h,bz]
  exact gv _ m.pm
 .exact cG.mpr ⟨st.2.1,m.so,λx c y hy=>m.la x (by rw[e];exact fk _ c) y hy⟩
 .intro x c y hy
  rcases bF.mp hy with hy|hy
  .exact st.2.2 x c y hy
  .exact m.la x (by rw[e];exact j4 _ c) y hy
 .intro x c y hy
  rcases bF.mp hy with hy|hy
  .exact d x c y hy
  .exact m.lb x c y hy
theorem MH.lA{a b tl:List Keyed}{na nb at_:Nat}(m:MH r a b tl na nb)(h:at_<=nb)(sb:b.Pairwise (Le r))(d:∀x∈a.take na,∀y∈mid b at_ nb,Le r x y):MH r a b (mid b at_ nb++tl) na at_:=by
 have e:=vj b h;have st:(b.take nb).Pairwise (Le r):=sb.sublist (gu _ _);rw[e,cG] at st;refine⟨?_,?_,?_,?_⟩
 .rw[zK b h]
  refine(gv _ m.pm).trans ?_;rw[<-bz,<-bz];exact gV _ iO
 .exact cG.mpr ⟨st.2.1,m.so,λx c y hy=>m.lb x (by rw[e];exact fk _ c) y hy⟩
 .intro x c y hy
  rcases bF.mp hy with hy|hy
  .exact d x c y hy
  .exact m.la x c y hy
 .intro x c y hy
  rcases bF.mp hy with hy|hy
  .exact st.2.2 x c y hy
  .exact m.lb x (by rw[e];exact j4 _ c) y hy
theorem MH.done{a b tl:List Keyed}{na nb:Nat}(m:MH r a b tl na nb)(sa:a.Pairwise (Le r))(sb:b.Pairwise (Le r))(h:na=0\/nb=0):Mg r a b (a.take na++b.take nb++tl):=by
 refine⟨?_,?_⟩
 .have e:(a++b).Perm ((a.take na++a.drop na)++(b.take nb++b.drop nb)):=by rw[dY,dY]
  refine Perm.trans ?_ e.symm;rw[bz,bz];refine gv _ ?_;refine(gv _ m.pm).trans ?_;rw[<-bz,<-bz];exact gV _ iO
 .rw[bz]
  refine cG.mpr ⟨sa.sublist (gu _ _),cG.mpr ⟨sb.sublist (gu _ _),m.so,λx c y hy=>m.lb x c y hy⟩,?_⟩;intro x c y hy;rcases bF.mp hy with hy|hy
  .rcases h with rfl|rfl
   .simp at c
   .simp at hy
  .exact m.la x c y hy
theorem MH.GF{a b tl:List Keyed}{na nb:Nat}(m:MH r a b tl na nb)(sa:a.Pairwise (Le r))(sb:b.Pairwise (Le r))(h:∀x∈b.take nb,∀y∈a.take na,Le r x y):Mg r a b (b.take nb++a.take na++tl):=by
 refine⟨?_,?_⟩
 .have e:(a++b).Perm ((a.take na++a.drop na)++(b.take nb++b.drop nb)):=by rw[dY,dY]
  refine Perm.trans ?_ e.symm;refine(Perm.append iO m.pm).trans ?_;rw[bz,bz];refine gv _ ?_;rw[<-bz,<-bz];exact gV _ iO
 .rw[bz]
  refine cG.mpr ⟨sb.sublist (gu _ _),cG.mpr ⟨sa.sublist (gu _ _),m.so,λx c y hy=>m.la x c y hy⟩,?_⟩;intro x c y hy;rcases bF.mp hy with hy|hy
  .exact h x c y hy
  .exact m.lb x c y hy
end
section
variable{M:Model}{A:Around}{E:aF}{s:Shared}{C:SortKind}{G:Keyed->Prop}{r:Keyed->Keyed->Bool}{a b:Array Keyed}
structure MD(G:Keyed->Prop)(r:Keyed->Keyed->Bool)(a b:Array Keyed):Prop where
 ga:∀x∈a.toList,G x
 gb:∀x∈b.toList,G x
 sa:a.toList.Pairwise (Le r)
 sb:b.toList.Pairwise (Le r)
 fb:∀x∈b.toList.take 1,∀y∈a.toList,Le r x y
abbrev MG(r:Keyed->Keyed->Bool)(a b o:Array Keyed)(na nb:Nat):Prop:=MH r a.toList b.toList o.toList.reverse na nb
theorem pq(a:Array Keyed)(n:Nat):(a.extract 0 n).toList=a.toList.take n:=by
 rw[rj,rD,Nat.sub_zero,lQ]
theorem tE(a:Array Keyed)(i n:Nat):(a.extract i n).toList=mid a.toList i n:=by
 rw[rj,rD]
theorem mZ{a:Array Keyed}{n:Nat}(h:n<a.size):mid a.toList n (n+1)=[a.toList[n]'h]:=by
 unfold mid;rw[rF];exact take1 h
theorem zw{a:Array Keyed}{n:Nat}(h:n<a.size)(sa:a.toList.Pairwise (Le r)){x:Keyed}(hx:x∈a.toList.take (n+1)):x=a.toList[n]'h\/Le r x (a.toList[n]'h):=by
 have e:=vj a.toList (at_:=n) (na:=n+1) (by omega);rw[mZ h] at e;have b:(a.toList.take (n+1)).Pairwise (Le r):=sa.sublist (gu _ _);rw[e] at hx b;rcases bF.mp hx with hx|hx
 .exact .inr ((cG.mp b).2.2 x hx _ (bV.mpr rfl))
 .exact .inl (bV.mp hx)
variable(cp:Cp M A E s C G r)(md:MD G r a b)
include md
theorem mE{out:Array Keyed}{na nb:Nat}(m:MG r a b out na nb)(h:na=0\/nb=0):Fin r a b (gF a b out na nb):=by
 show Mg r a.toList b.toList _;rw[ek,ek,pq,pq,rm];exact m.done md.sa md.sb h
theorem pC{out:Array Keyed}{na nb:Nat}(m:MG r a b out na nb)(h:nb=1):Fin r a b (kK a b out na nb):=by
 show Mg r a.toList b.toList _;rw[ek,ek,pq,pq,rm];exact m.GF md.sa md.sb (λx c y d=>md.fb x (by rw[<-h];exact c) y (cZ d))
theorem G1{out:Array Keyed}{na nb at_:Nat}(m:MG r a b out na nb)(h:at_<=na)(c:∀x∈b.toList.take nb,∀y∈mid a.toList at_ na,Le r x y):MG r a b (out++(a.extract at_ na).reverse) at_ nb:=by
 show MH r a.toList b.toList _ _ _;rw[ek,rm,q9,List.reverse_reverse,tE];exact m.nI h md.sa c
theorem G2{out:Array Keyed}{na nb at_:Nat}(m:MG r a b out na nb)(h:at_<=nb)(c:∀x∈a.toList.take na,∀y∈mid b.toList at_ nb,Le r x y):MG r a b (out++(b.extract at_ nb).reverse) na at_:=by
 show MH r a.toList b.toList _ _ _;rw[ek,rm,q9,List.reverse_reverse,tE];exact m.lA h md.sb c
theorem tN{out:Array Keyed}{na nb:Nat}(hi:na<a.size)(m:MG r a b out (na+1) nb)(h:∀x∈b.toList.take nb,Le r x (a.toList[na]'hi)):MG r a b (out.push (a.toList[na]'hi)) na nb:=by
 have:=m.nI (at_:=na) (by omega) md.sa (λx d y c=>by rw[mZ hi] at c;rw[bV.mp c];exact h x d);rw[mZ hi] at this;show MH r a.toList b.toList _ _ _;rw[jT,q9];exact this
theorem zd{out:Array Keyed}{na nb:Nat}(hi:nb<b.size)(m:MG r a b out na (nb+1))(h:∀x∈a.toList.take na,Le r x (b.toList[nb]'hi)):MG r a b (out.push (b.toList[nb]'hi)) na nb:=by
 have:=m.lA (at_:=nb) (by omega) md.sb (λx d y c=>by rw[mZ hi] at c;rw[bV.mp c];exact h x d);rw[mZ hi] at this;show MH r a.toList b.toList _ _ _;rw[jT,q9];exact this
include cp
theorem zb{y:Keyed}{n:Nat}(c:G y)(hi:n<a.size)(h:Le r (a.toList[n]'hi) y):∀x∈a.toList.take (n+1),Le r x y:=λx b=>by
 rcases zw hi md.sa b with rfl|h'
 .exact h
 .exact cp.tr (md.ga x (cZ b)) (md.ga _ (cA _)) c h' h
theorem zc{y:Keyed}{n:Nat}(c:G y)(hi:n<b.size)(h:Le r (b.toList[n]'hi) y):∀x∈b.toList.take (n+1),Le r x y:=λx a=>by
 rcases zw hi md.sb a with rfl|h'
 .exact h
 .exact cp.tr (md.gb x (cZ a)) (md.gb _ (cA _)) c h' h
theorem GZ{out:Array Keyed}{na nb ac w mg:Nat}{st:SortSt}{R:ForInStep lX->SortSt->Prop}(hk:kindOf st=C)(m:MG r a b out (na+1) (nb+2))(x:na+1<=a.size)(y:nb+2<=b.size)
  (f:∀o c,Fin r a b o->R (.done (some o,c)) st)
  (go:∀h i j p q,MG r a b h (i+1) (j+2)->i+1<=a.size->j+2<=b.size->i+j<na+nb->R (.done (none,i+1,j+2,h,p,q)) st/\R (.yield (none,i+1,j+2,h,p,q)) st):
  wpS M A E s (pF a b mg (none,na+1,nb+2,out,ac,w)) R st:=by
 have d:na<a.size:=by omega
 have g:nb+1<b.size:=by omega
 have u:=md.ga _ (cA (l:=a.toList) (n:=na) d)
 have v:=md.gb _ (cA (l:=b.toList) (n:=nb+1) g)
 unfold pF
 dsimp only[add_sub_cancel,Nat.add_one_sub_one]
 refine aC (cK g (aC (cK d (aC (cp.lt v u hk ?_)))))
 dsimp only
 cases e:r (b.toList[nb+1]'g) (a.toList[na]'d) with
 |true=>
  rw[ao rfl]
  refine aC (cK d ?_)
  have t:=tN md d m (zc cp md u g (cp.as v u e))
  by_cases k:na=0
  .rw[ao (by simpa using k)]
   exact aE (f _ _ (mE md t (.inl k)))
  .rw[av (by simpa using k)]
   obtain⟨n,rfl⟩:=n6 k
   have:=go _ _ _ (ac+1) 0 t (by omega) y (by omega)
   split
   .exact aE this.1
   .exact aE this.2
 |false=>
  rw[av (by simp)]
  refine aC (cK g ?_)
  have t:=zd md g m (zb cp md v d e)
  by_cases k:nb=0
  .subst k
   rw[ao (by simp)]
   exact aE (f _ _ (pC md t rfl))
  .rw[av (by simpa using k)]
   obtain⟨n,rfl⟩:=n6 k
   have:=go _ _ _ 0 (w+1) t x (by omega) (by omega)
   split
   .exact aE this.1
   .exact aE this.2
end
section
variable{M:Model}{A:Around}{E:aF}{s:Shared}{C:SortKind}{G:Keyed->Prop}{r:Keyed->Keyed->Bool}{a b:Array Keyed}
variable(cp:Cp M A E s C G r)(md:MD G r a b)
include cp md
theorem y_{out:Array Keyed}{na nb mg k k1:Nat}{st:SortSt}{R:ForInStep gy->SortSt->Prop}(m:MG r a b out (na+1) (nb+2))(h:na<a.size)(t:nb+2<=b.size)(u:∀y∈b.toList.take (nb+2),Le r y (a.toList[na]'h))
  (f:∀o c,Fin r a b o->R (.done (some o,c)) st)
  (go:∀d e g i j l,MG r a b d (e+1) (g+2)->e+1<=a.size->g+2<=b.size->e+g<na+nb->R (.done (none,e+1,g+2,d,i,j,l)) st/\R (.yield (none,e+1,g+2,d,i,j,l)) st):
  wpS M A E s (h3 a b out (na+1) (nb+2) mg k k1) R st:=by
 unfold h3
 dsimp only[add_sub_cancel,Nat.add_one_sub_one]
 refine aC (cK h ?_)
 have q:=tN md h m u
 by_cases p:na=0
 .rw[ao (by simpa using p)]
  exact aE (f _ _ (mE md q (.inl p)))
 .rw[av (by simpa using p)]
  obtain⟨n,rfl⟩:=n6 p
  have:=go _ _ _ mg k k1 q (by omega) t (by omega)
  split
  .exact aE this.1
  .exact aE this.2
theorem y9{out:Array Keyed}{na nb mg k T:Nat}{st:SortSt}{R:ForInStep gy->SortSt->Prop}(hk:kindOf st=C)(m:MG r a b out (na+1) (nb+2))(h:na<a.size)(u:nb+1<b.size)(v:∀x∈a.toList.take (na+1),Le r x (b.toList[nb+1]'u))
  (f:∀o c,Fin r a b o->R (.done (some o,c)) st)
  (go:∀p q t w z B,MG r a b p (q+1) (t+2)->q+1<=a.size->t+2<=b.size->q+t<na+nb->R (.done (none,q+1,t+2,p,w,z,B)) st/\R (.yield (none,q+1,t+2,p,w,z,B)) st):
  wpS M A E s (h2 a b out (na+1) (nb+2) mg k T) R st:=by
 have P:=md.ga _ (cA (l:=a.toList) (n:=na) h)
 unfold h2
 dsimp only[add_sub_cancel,Nat.add_one_sub_one]
 refine aC (cK u ?_)
 have G:=zd md u m v
 by_cases H:nb=0
 .subst H
  rw[ao (by simp)]
  exact aE (f _ _ (pC md G rfl))
 .rw[av (by simpa using H)]
  refine aC (cK h ?_)
  have es:seg b 0 (nb+1)=b.toList.take (nb+1):=by unfold seg;rw[lQ]
  refine aC (kP cp hk P (by omega) (by omega) (by rw[es];exact λx v=>md.gb x (cZ v)) (by rw[es];exact md.sb.sublist (gu _ _)) ?_)
  rw[es]
  intro at_ D t1 Q
  rw[take_take,jQ D] at t1
  rw[drop_take] at Q
  dsimp only
  have t3:∀y∈b.toList.take at_,Le r y (a.toList[na]'h):=λy F=>cp.as (md.gb y (cZ F)) P (t1 y F)
  by_cases S:nb+1 - at_>0
  .rw[ao S]
   have I:=G2 md G D (λx v y F=>zb cp md (md.gb y (dD (cZ F))) h (Q y F) x v)
   by_cases J:at_=1
   .rw[ao (by simpa using J)]
    exact aE (f _ _ (pC md I J))
   .rw[av (by simpa using J)]
    by_cases K:at_=0
    .rw[ao (by simpa using K)]
     exact aE (f _ _ (mE md I (.inr K)))
    .rw[av (by simpa using K)]
     obtain⟨n,rfl⟩:∃n,at_=n+2:=⟨at_ - 2,by omega⟩
     exact y_ cp md I h (by omega) t3 f (λo i j g c d L N O U=>go o i j g c d L N O (by omega))
  .rw[av S]
   have e:at_=nb+1:=by omega
   subst e
   obtain⟨n,rfl⟩:=n6 H
   exact y_ cp md G h (by omega) t3 f (λo i j g c d L N O U=>go o i j g c d L N O (by omega))
theorem yZ{out:Array Keyed}{na nb mg ac K:Nat}{st:SortSt}{R:ForInStep gy->SortSt->Prop}(hk:kindOf st=C)(m:MG r a b out (na+1) (nb+2))(P:na+1<=a.size)(Q:nb+2<=b.size)
  (f:∀o c,Fin r a b o->R (.done (some o,c)) (bu st mg))
  (go:∀k p q t u v,MG r a b k (p+1) (q+2)->p+1<=a.size->q+2<=b.size->p+q<na+nb->R (.done (none,p+1,q+2,k,t,u,v)) (bu st mg)/\R (.yield (none,p+1,q+2,k,t,u,v)) (bu st mg)):
  wpS M A E s (h1 a b out (na+1) (nb+2) mg ac K) R st:=by
 have D:na<a.size:=by omega
 have h:nb+1<b.size:=by omega
 have G:=md.gb _ (cA (l:=b.toList) (n:=nb+1) h)
 unfold h1
 dsimp only[add_sub_cancel,Nat.add_one_sub_one]
 refine aC (fH (aC (cK h ?_)))
 have es:seg a 0 (na+1)=a.toList.take (na+1):=by unfold seg;rw[lQ]
 refine aC (kP cp hk G (by omega) (by omega) (by rw[es];exact λx w=>md.ga x (cZ w)) (by rw[es];exact md.sa.sublist (gu _ _)) ?_)
 rw[es]
 intro at_ z t1 H
 rw[take_take,jQ z] at t1
 rw[drop_take] at H
 dsimp only
 have t3:∀x∈a.toList.take at_,Le r x (b.toList[nb+1]'h):=λx w=>by have:=t1 x w;simpa using this
 by_cases I:na+1 - at_>0
 .rw[ao I]
  have J:=G1 md m z (λx w y F=>zc cp md (md.ga y (dD (cZ F))) h (cp.as G (md.ga y (dD (cZ F))) (by have:=H y F;simpa using this)) x w)
  by_cases B:at_=0
  .rw[ao (by simpa using B)]
   exact aE (f _ _ (mE md J (.inl B)))
  .rw[av (by simpa using B)]
   obtain⟨n,rfl⟩:=n6 B
   exact y9 cp md hk J (by omega) h t3 f (λo i j g c d L N O S=>go o i j g c d L N O (by omega))
 .rw[av I]
  have e:at_=na+1:=by omega
  subst e
  exact y9 cp md hk m D h t3 f go
theorem G0{out:Array Keyed}{na nb mg ac z:Nat}{st:SortSt}{R:ForInStep gy->SortSt->Prop}(hk:kindOf st=C)(m:MG r a b out (na+1) (nb+2))(x:na+1<=a.size)(y:nb+2<=b.size)
  (f:∀o c g,Fin r a b o->R (.done (some o,c)) (bu st g))
  (go:∀e h k l n p g,MG r a b e (h+1) (k+2)->h+1<=a.size->k+2<=b.size->h+k<na+nb->R (.done (none,h+1,k+2,e,l,n,p)) (bu st g)/\R (.yield (none,h+1,k+2,e,l,n,p)) (bu st g)):
  wpS M A E s (pH a b (none,na+1,nb+2,out,mg,ac,z)) R st:=by
 unfold pH
 dsimp only
 split
 .exact yZ cp md hk m x y (λo c q=>f o c _ q) (λo i j g c d t u v w=>go o i j g c d _ t u v w)
 .exact yZ cp md hk m x y (λo c q=>f o c _ q) (λo i j g c d t u v w=>go o i j g c d _ t u v w)
theorem zf{out:Array Keyed}{na nb mg u v:Nat}{st:SortSt}{R:ForInStep j7->SortSt->Prop}(hk:kindOf st=C)(m:MG r a b out (na+1) (nb+2))(B:na+1<=a.size)(D:nb+2<=b.size)
  (f:∀o c g,Fin r a b o->R (.done (some o,c)) (bu st g))
  (go:∀h d e k g,MG r a b h (d+1) (e+2)->d+1<=a.size->e+2<=b.size->d+e<na+nb->R (.yield (none,d+1,e+2,h,k)) (bu st g)):
  wpS M A E s (pI a b mg (none,na+1,nb+2,out,u,v)) R st:=by
 unfold pI
 dsimp only
 refine aC (lE ?_)
 refine aC (ez (I:=λx c l=>∃g,l=bu st g/\∃o i j q u v,c=(none,i+1,j+2,o,q,u,v)/\MG r a b o (i+1) (j+2)/\i+1<=a.size/\j+2<=b.size/\i+j+x<=na+nb) ?_ ?_ ⟨gallopOf st,rfl,out,na,nb,_,_,_,rfl,m,B,D,by omega⟩)
 .rintro x c l _ N ⟨g,rfl,o,i,j,q,u,v,rfl,n,p,t,F⟩
  refine G0 cp md hk n p t ?_ ?_
  .intro o' c g' G
   dsimp only
   exact aE (f _ _ _ G)
  .intro o' H J k K L g' w y z O
   refine⟨?_,⟨g',rfl,o',H,J,k,K,L,rfl,w,y,z,by omega⟩⟩
   dsimp only
   refine aC (fH (aE ?_))
   exact go _ _ _ _ _ w y z (by omega)
 .rintro c l ⟨g,rfl,o,i,j,q,u,v,rfl,n,p,t,F⟩
  dsimp only
  refine aC (fH (aE ?_))
  exact go _ _ _ _ _ n p t (by omega)
theorem G3{out:Array Keyed}{na nb mg:Nat}{st:SortSt}{R:ForInStep j7->SortSt->Prop}(hk:kindOf st=C)(m:MG r a b out (na+1) (nb+2))(D:na+1<=a.size)(F:nb+2<=b.size)
  (f:∀o c g,Fin r a b o->R (.done (some o,c)) (bu st g))
  (go:∀h d e n g,MG r a b h (d+1) (e+2)->d+1<=a.size->e+2<=b.size->d+e<na+nb->R (.yield (none,d+1,e+2,h,n)) (bu st g)):
  wpS M A E s (hturn a b (none,na+1,nb+2,out,mg)) R st:=by
 unfold hturn
 dsimp only
 refine aC (ez (I:=λx c k=>∃g,k=bu st g/\∃o i j u v,c=(none,i+1,j+2,o,u,v)/\MG r a b o (i+1) (j+2)/\i+1<=a.size/\j+2<=b.size/\i+j+x<=na+nb) ?_ ?_ ⟨gallopOf st,rfl,out,na,nb,0,0,rfl,m,D,F,by omega⟩)
 .rintro x c k _ O ⟨g,rfl,o,i,j,u,v,rfl,p,q,t,G⟩
  refine GZ cp md hk p q t ?_ ?_
  .intro o' c l
   exact aE (f _ _ _ l)
  .intro o' H J K L y z B P
   refine⟨?_,⟨g,rfl,o',H,J,K,L,rfl,y,z,B,by omega⟩⟩
   exact zf cp md hk y z B (λo c g l=>f o c g l) (λo i j m g a1 a2 w N=>go o i j m g a1 a2 w (by omega))
 .rintro c k ⟨g,rfl,o,i,j,u,v,rfl,p,q,t,G⟩
  exact zf cp md hk p q t (λo c g l=>f o c g l) (λo i j m g a1 a2 w N=>go o i j m g a1 a2 w (by omega))
theorem Iv{st:SortSt}{Q:Array Keyed->SortSt->Prop}(hk:kindOf st=C)(na:0<a.size)(nb:0<b.size)(D:∀x∈b.toList,∀y∈a.toList.drop (a.size - 1),Le r x y)
  (h:∀out g,Fin r a b out->Q out (bu st g)):wpS M A E s (mW a b) Q st:=by
 rw[Iu];refine aC (lE ?_);have hi:a.size - 1<a.size:=by omega
 refine aC (cK hi ?_);have m0:MG r a b #[a.toList[a.size - 1]'hi] (a.size - 1) b.size:=by
  have m:MG r a b #[] (a.size - 1+1) b.size:=⟨by rw[jm (by rw[bH];omega),jm (by rw[bH];omega)];exact Perm.nil,Pairwise.nil,λx e y f=>by simp at f,λx e y f=>by simp at f⟩;exact tN md hi m (λx e=>D x (cZ e) _ (Im hi))
 by_cases l:a.size - 1=0
 .rw[ao (by simpa using l)]
  exact aE (h _ (gallopOf st) (mE md m0 (.inl l)))
 .rw[av (by simpa using l)]
  by_cases p:b.size=1
  .rw[ao (by simpa using p)]
   exact aE (h _ (gallopOf st) (pC md m0 p))
  .rw[av (by simpa using p)]
   refine aC (gU ?_);obtain⟨n,u⟩:∃n,a.size - 1=n+1:=⟨a.size - 2,by omega⟩;obtain⟨k,v⟩:∃k,b.size=k+2:=⟨b.size - 2,by omega⟩;refine aC (ez (I:=λx c d=>∃g,d=bu st g/\∃o i j q,c=(none,i+1,j+2,o,q)/\MG r a b o (i+1) (j+2)/\i+1<=a.size/\j+2<=b.size/\i+j+x<=n+k) ?_ ?_ ⟨gallopOf st,rfl,#[a.toList[a.size - 1]'hi],n,k,gallopOf st,by rw[<-u,<-v],by rw[<-u,<-v];exact m0,by omega,by omega,by omega⟩)
   .rintro x c d _ e ⟨g,rfl,o,i,j,q,rfl,w,z,B,F⟩
    refine G3 cp md hk w z B ?_ ?_
    .intro o' c g' G
     exact aE (h _ _ G)
    .intro o' H J t g' K L N O
     exact⟨g',rfl,o',H,J,t,rfl,K,L,N,by omega⟩
   .rintro c d ⟨g,rfl,o,i,j,q,rfl,w,z,B,F⟩
    exfalso;omega
end
def mergeAt':Nat->SM Bool:=sortPriv%PySem.Builtin.mergeAt
abbrev uY(st:SortSt)(p:Array (Nat×Nat×Nat)):SortSt:=SortSt.mk' (kindOf st) (arrOf st) p (gallopOf st) (failedOf st)
abbrev wr(arr:Array Keyed)(base:Nat)(out:Array Keyed):Array Keyed:=out.toList.zipIdx.foldl (λa (p,j)=>a.setIfInBounds (base+j) p) arr
theorem Ip(i:Nat):mergeAt' i=(do
 let s <-get
 let (some (sa,na,power),some (sb,nb,_)):=((pendingOf s)[i]?,(pendingOf s)[i+1]?)|unsupported "internal:list.sort.pending"
 set (uY s (((pendingOf s).setIfInBounds i (sa,na+nb,power)).eraseIdxIfInBounds (i+1)))
 let some k <-eO false (<-elem' (arrOf s) sb) (arrOf s) sa na 0|return false
 let (sa,na):=(sa+k,na - k)
 if na==0 then return true
 let some nb <-eO true (<-elem' (arrOf s) (sa+na - 1)) (arrOf s) sb nb (nb - 1)|return false
 if nb==0 then return true
 let x:=(arrOf s).extract sa sb
 let y:=(arrOf s).extract sb (sb+nb)
 let merged <-if na<=nb then mX x y else mW x y
 modify λs=>setArr s (wr (arrOf s) sa merged)
 return (failedOf (<-get)).isNone):=rfl
def zG(arr:Array Keyed)(sa na sb nb:Nat):SM Bool:=do
 let merged <-if na<=nb then mX (arr.extract sa sb) (arr.extract sb (sb+nb)) else mW (arr.extract sa sb) (arr.extract sb (sb+nb))
 modify λs=>setArr s (wr (arrOf s) sa merged)
 return (failedOf (<-get)).isNone
def uh(arr:Array Keyed)(sa na sb nb:Nat):SM Bool:=do
 let y <-elem' arr sb
 match <-eO false y arr sa na 0 with
 |some k=>
  if na - k==0 then pure true
  else do
   let x <-elem' arr (sa+k+(na - k) - 1)
   match <-eO true x arr sb nb (nb - 1) with
   |some zN=>if zN==0 then pure true else zG arr (sa+k) (na - k) sb zN
   |_=>pure false
 |_=>pure false
theorem Iq{M:Model}{A:Around}{E:aF}{s:Shared}{i sa na b sb nb a:Nat}{st:SortSt}{Q:Bool->SortSt->Prop}(c:(pendingOf st)[i]?=some (sa,na,b))(d:(pendingOf st)[i+1]?=some (sb,nb,a))
  (h:wpS M A E s (uh (arrOf st) sa na sb nb) Q (uY st (((pendingOf st).setIfInBounds i (sa,na+nb,b)).eraseIdxIfInBounds (i+1)))):wpS M A E s (mergeAt' i) Q st:=by
 rw[Ip];refine aC (gU ?_);rw[c,d];dsimp only;refine aC ?_;show wpS M A E s (modify λ_=>_) _ _;refine fH ?_;exact h
theorem Cw(base:Nat):∀(l:List Keyed) (n:Nat) (arr:Array Keyed),base+n+l.length<=arr.size->((l.zipIdx n).foldl (λa (p,j)=>a.setIfInBounds (base+j) p) arr).toList=arr.toList.take (base+n)++l++arr.toList.drop (base+n+l.length)
 |[],n,arr,h=>by
  simp only[List.zipIdx_nil,foldl_nil,gW,length_nil,add_zero];exact(dY _ _).symm
 |p::l,n,arr,h=>by
  rw[dZ] at h;rw[List.zipIdx_cons,foldl_cons];have:=Cw base l (n+1) (arr.setIfInBounds (base+n) p) (by rw[Array.size_setIfInBounds];omega);rw[this,Array.toList_setIfInBounds,List.set_eq_take_append_cons_drop,ao (by rw[bH];omega)];have b:(arr.toList.take (base+n)).length=base+n:=by rw[f6,bH];omega
  have c:(arr.toList.take (base+n)++p::arr.toList.drop (base+n+1)).take (base+(n+1))=arr.toList.take (base+n)++[p]:=by
   rw[List.take_append,fG (by rw[b];omega),b,show base+(n+1) - (base+n)=1 by omega];rfl
  have d:(arr.toList.take (base+n)++p::arr.toList.drop (base+n+1)).drop (base+(n+1)+l.length)=arr.toList.drop (base+n+(l.length+1)):=by
   rw[List.drop_append,b,jm (by rw[b];omega),jR,show base+(n+1)+l.length - (base+n)=l.length+1 by omega,List.drop_succ_cons,lP];congr 1;omega
  rw[c,d,bz,bz,dZ,bz];rfl
section
variable{M:Model}{A:Around}{E:aF}{s:Shared}{C:SortKind}{G:Keyed->Prop}{r:Keyed->Keyed->Bool}
theorem LL(cp:Cp M A E s C G r){X Y Z:List Keyed}{k n:Nat}{f g:Keyed}(o:∀x∈X,G x)(p:∀x∈Y,G x)(u:X.Pairwise (Le r))(v:Y.Pairwise (Le r))(b:G f)(i:G g)
  (c:∀y∈Y,Le r f y)(j:∀x∈X,Le r x g)(t1:∀x∈X.take k,Le r x f)(B:∀y∈Y.drop n,Le r g y)
  (q:Z.Perm (X.drop k++Y.take n))(sz:Z.Pairwise (Le r)):(X.take k++Z++Y.drop n).Perm (X++Y)/\(X.take k++Z++Y.drop n).Pairwise (Le r):=by
 refine⟨?_,?_⟩
 .have e:X++Y=X.take k++(X.drop k++Y.take n)++Y.drop n:=by
   rw[<-bz,dY,bz,dY]
  rw[e]
  exact gV _ (gv _ q)
 .have st:X.Pairwise (Le r):=u
  rw[<-dY k X,cG] at st
  have l:Y.Pairwise (Le r):=v
  rw[<-dY n Y,cG] at l
  have gt:∀x∈X.take k,G x:=λx hx=>o x (cZ hx)
  have a:∀z∈Z,z∈X.drop k\/z∈Y.take n:=λz m=>bF.mp (q.mem_iff.mp m)
  refine cG.mpr ⟨cG.mpr ⟨st.1,sz,?_⟩,l.2.1,?_⟩
  .intro x hx z m
   rcases a z m with h|h
   .exact st.2.2 x hx z h
   .exact cp.tr (gt x hx) b (p z (cZ h)) (t1 x hx) (c z (cZ h))
  .intro x hx w d
   have t:=p w (dD d)
   rcases bF.mp hx with hx|hx
   .exact cp.tr (gt x hx) b t (t1 x hx) (c w (dD d))
   .rcases a x hx with h|h
    .exact cp.tr (o x (dD h)) i t (j x (dD h)) (B w d)
    .exact l.2.2 x h w d
end
section
variable{M:Model}{A:Around}{E:aF}{s:Shared}{C:SortKind}{G:Keyed->Prop}{r:Keyed->Keyed->Bool}
theorem Cp.rf(cp:Cp M A E s C G r){x:Keyed}(g:G x):Le r x x:=by
 show r x x=false;cases e:r x x with
 |false=>rfl
 |true=>rw[cp.as g g e] at e;cases e
theorem nA{arr:Array Keyed}{base n:Nat}(h:base+n<=arr.size):(seg arr base n).length=n:=by
 rw[f6,f5,bH];omega
theorem seg_at{arr:Array Keyed}{base n i:Nat}(h:base+n<=arr.size)(hi:i<n)(h1:base+i<arr.size)(h2:i<(seg arr base n).length):arr.toList[base+i]'h1=(seg arr base n)[i]'h2:=by
 have:=lu (arr:=arr) (base:=base) hi;rw[bS h2,bS (by simpa using h1)] at this;exact(Option.some.inj this).symm
theorem BV{arr:Array Keyed}{base n k:Nat}:(seg arr base n).drop k=(arr.toList.drop (base+k)).take (n - k):=by
 unfold seg;rw[drop_take,lP]
theorem cut{arr:Array Keyed}{base n:Nat}:arr.toList.drop base=seg arr base n++arr.toList.drop (base+n):=mG _ _ _
theorem Il(cp:Cp M A E s C G r){sa na sb nb:Nat}{st:SortSt}{Q:Bool->SortSt->Prop}(hk:kindOf st=C)(V:failedOf st=none)(W:sb=sa+na)(X:0<na)(Y:0<nb)(F:sb+nb<=(arrOf st).size)
  (l:∀x∈seg (arrOf st) sa na,G x)(m:∀x∈seg (arrOf st) sb nb,G x)(p:(seg (arrOf st) sa na).Pairwise (Le r))(q:(seg (arrOf st) sb nb).Pairwise (Le r))
  (h:∀f g Z,f.toList=(arrOf st).toList.take sa++Z++(arrOf st).toList.drop (sb+nb)->Z.Perm (seg (arrOf st) sa na++seg (arrOf st) sb nb)->Z.Pairwise (Le r)->Q true (bu (setArr st f) g)):
  wpS M A E s (uh (arrOf st) sa na sb nb) Q st:=by
 subst W
 have L:=nA (arr:=arrOf st) (base:=sa) (n:=na) (by omega)
 have N:=nA (arr:=arrOf st) (base:=sa+na) (n:=nb) F
 have same:(arrOf st).toList=(arrOf st).toList.take sa++(seg (arrOf st) sa na++seg (arrOf st) (sa+na) nb)++(arrOf st).toList.drop (sa+na+nb):=by
  rw[bz,bz,<-cut,<-cut,dY]
 have H:sa+na<(arrOf st).size:=by omega
 have j:0<(seg (arrOf st) (sa+na) nb).length:=by omega
 have O:sa+(na - 1)<(arrOf st).size:=by omega
 have u:na - 1<(seg (arrOf st) sa na).length:=by omega
 have ey:=seg_at (arr:=arrOf st) (base:=sa+na) (n:=nb) (i:=0) F Y H j
 have ex:=seg_at (arr:=arrOf st) (base:=sa) (n:=na) (i:=na - 1) (by omega) (by omega) O u
 have c:G ((seg (arrOf st) (sa+na) nb)[0]'j):=m _ (cA _)
 have d:G ((seg (arrOf st) sa na)[na - 1]'u):=l _ (cA _)
 have v:∀y∈seg (arrOf st) (sa+na) nb,Le r ((seg (arrOf st) (sa+na) nb)[0]'j) y:=λy b=>by
  obtain⟨i,hi,rfl⟩:=lS b
  rcases Nat.eq_zero_or_pos i with h'|h'
  .subst h';exact cp.rf c
  .exact lH.mp q 0 i j hi h'
 have w:∀x∈seg (arrOf st) sa na,Le r x ((seg (arrOf st) sa na)[na - 1]'u):=λx a=>by
  obtain⟨i,hi,rfl⟩:=lS a
  rcases fL i (na - 1) with h'|h'
  .exact lH.mp p i (na - 1) hi u h'
  .have:i=na - 1:=by omega
   subst this
   exact cp.rf d
 have e:(seg (arrOf st) sa na++seg (arrOf st) (sa+na) nb).Pairwise (Le r)->Q true st:=λhp=>h (arrOf st) (gallopOf st) _ same (Perm.refl _) hp
 unfold uh
 refine aC (cK H ?_)
 rw[show(arrOf st).toList[sa+na]'H=(seg (arrOf st) (sa+na) nb)[0]'j from ey]
 refine aC (kP cp hk c (by omega) X l p ?_)
 intro k I t1 t2
 dsimp only
 have o:∀x∈(seg (arrOf st) sa na).take k,Le r x ((seg (arrOf st) (sa+na) nb)[0]'j):=λx a=>by have:=t1 x a;simpa using this
 by_cases P:na - k=0
 .rw[ao (by simpa using P)]
  refine aE (e (cG.mpr ⟨p,q,λx a y b=> ?_⟩))
  have:(seg (arrOf st) sa na).take k=seg (arrOf st) sa na:=fG (by omega)
  rw[this] at o
  exact cp.tr (l x a) c (m y b) (o x a) (v y b)
 .rw[av (by simpa using P)]
  have el:sa+k+(na - k) - 1=sa+(na - 1):=by omega
  rw[el]
  refine aC (cK O ?_)
  rw[ex]
  refine aC (kP cp hk d F (by omega) m q ?_)
  intro n hn u1 R
  dsimp only
  by_cases J:n=0
  .rw[ao (by simpa using J)]
   subst J
   refine aE (e (cG.mpr ⟨p,q,λx a y b=> ?_⟩))
   exact cp.tr (l x a) d (m y b) (w x a) (R y b)
  .rw[av (by simpa using J)]
   have eX:((arrOf st).extract (sa+k) (sa+na)).toList=(seg (arrOf st) sa na).drop k:=by
    rw[tE,BV];unfold mid;congr 1;omega
   have t:((arrOf st).extract (sa+na) (sa+na+n)).toList=(seg (arrOf st) (sa+na) nb).take n:=by
    rw[tu];unfold seg;rw[take_take,jQ hn]
   have K:((arrOf st).extract (sa+k) (sa+na)).size=na - k:=by
    rw[<-bH,eX,f5,L]
   have S:((arrOf st).extract (sa+na) (sa+na+n)).size=n:=by
    rw[<-bH,t,f6,N];omega
   have ga:∀x∈((arrOf st).extract (sa+k) (sa+na)).toList,G x:=by rw[eX];exact λx a=>l x (dD a)
   have gb:∀x∈((arrOf st).extract (sa+na) (sa+na+n)).toList,G x:=by rw[t];exact λx a=>m x (cZ a)
   have z:((arrOf st).extract (sa+k) (sa+na)).toList.Pairwise (Le r):=by rw[eX];exact p.sublist (g8 _ _)
   have B:((arrOf st).extract (sa+na) (sa+na+n)).toList.Pairwise (Le r):=by rw[t];exact q.sublist (gu _ _)
   have la:∀x∈((arrOf st).extract (sa+na) (sa+na+n)).toList,∀y∈((arrOf st).extract (sa+k) (sa+na)).toList.drop (((arrOf st).extract (sa+k) (sa+na)).size - 1),Le r x y:=by
    rw[eX,t,K,lP,show k+(na - k - 1)=na - 1 by omega,jY u,jm (by omega)]
    intro x a y b
    rw[bV.mp b]
    exact cp.as (m x (cZ a)) d (u1 x a)
   have fb:∀x∈((arrOf st).extract (sa+na) (sa+na+n)).toList.take 1,∀y∈((arrOf st).extract (sa+k) (sa+na)).toList,Le r x y:=by
    rw[eX,t,take_take,jQ (by omega),List.take_one,List.head?_eq_getElem?,bS j]
    intro x a y b
    have a:x=(seg (arrOf st) (sa+na) nb)[0]'j:=by simpa using a
    rw[a]
    exact cp.as c (l y (dD b)) (by have:=t2 y b;simpa using this)
   have rest:∀out g,Fin r ((arrOf st).extract (sa+k) (sa+na)) ((arrOf st).extract (sa+na) (sa+na+n)) out->wpS M A E s (do
     modify λs=>setArr s (wr (arrOf s) (sa+k) out)
     return (failedOf (<-get)).isNone) Q (bu st g):=λout g T=>by
    refine aC (fH (aC (gU (aE ?_))))
    have D:out.toList.Perm ((seg (arrOf st) sa na).drop k++(seg (arrOf st) (sa+na) nb).take n):=by
     have:=T.1;rw[eX,t] at this;exact this
    have lo:out.toList.length=na - k+n:=by
     have a1:((seg (arrOf st) sa na).drop k).length=na - k:=by rw[f5,L]
     have a2:((seg (arrOf st) (sa+na) nb).take n).length=n:=by rw[f6,N];omega
     rw[D.length_eq,b_,a1,a2]
    have U:=LL cp l m p q c d v w o (λy b=>R y b) D T.2
    have fin:(failedOf (setArr (bu st g) (wr (arrOf (bu st g)) (sa+k) out))).isNone=true:=by
     show(failedOf st).isNone=true
     rw[V];rfl
    rw[fin]
    refine h (wr (arrOf st) (sa+k) out) g ((seg (arrOf st) sa na).take k++out.toList++(seg (arrOf st) (sa+na) nb).drop n) ?_ U.1 U.2
    have:=Cw (sa+k) out.toList 0 (arrOf st) (by rw[lo];omega)
    rw[show wr (arrOf st) (sa+k) out=_ from rfl,this,add_zero,lo,take_add,show sa+k+(na - k+n)=sa+na+n by omega]
    have e3:(arrOf st).toList.drop (sa+na+n)=(seg (arrOf st) (sa+na) nb).drop n++(arrOf st).toList.drop (sa+na+nb):=by
     have:=cut (arr:=arrOf st) (base:=sa+na+n) (n:=nb - n)
     rw[show sa+na+n+(nb - n)=sa+na+nb by omega] at this
     rw[BV];exact this
    have e4:((arrOf st).toList.drop sa).take k=(seg (arrOf st) sa na).take k:=by
     unfold seg;rw[take_take,jQ I]
    rw[e3,e4]
    simp only[bz]
   unfold zG
   dsimp only
   split
   .refine aC ?_
    exact IA cp ⟨ga,gb,z,B,la⟩ hk (by rw[K];omega) (by rw[S];omega) fb rest
   .refine aC ?_
    exact Iv cp ⟨ga,gb,z,B,fb⟩ hk (by rw[K];omega) (by rw[S];omega) la rest
end
section
variable{M:Model}{A:Around}{E:aF}{s:Shared}{C:SortKind}{G:Keyed->Prop}{O:KeyOrd}{key:Keyed->O.α}
abbrev byKey(O:KeyOrd)(key:Keyed->O.α)(x y:Keyed):Bool:=O.blt (key x) (key y)
def kk(O:KeyOrd)(key:Keyed->O.α)(arr:Array Keyed)(i:Nat):O.α:=key (arr[i]?.getD (Value.none,Value.none))
theorem jD{x y:Array Keyed}{i j:Nat}(h:x[i]?=y[j]?):kk O key x i=kk O key y j:=by unfold kk;rw[h]
structure Wk(a0 arr:Array Keyed)(lo:Nat):Prop where
 pm:arr.Perm a0
 fx:∀t,t<lo->arr[t]? =a0[t]?
theorem Wk.size{a0 arr:Array Keyed}{lo:Nat}(w:Wk a0 arr lo):arr.size=a0.size:=w.pm.size_eq
theorem Wk.p5{a0 arr:Array Keyed}{lo i j:Nat}(w:Wk a0 arr lo)(hi:lo<=i)(a:j<=a0.size):Wk a0 (mirror arr i j ((j - i)/2)) lo:=
 ⟨(mirror_perm _ _ _ _).trans w.pm,λt b=>by rw[getElem?_mirror_all (by rw[w.size];exact a),av (by omega)];exact w.fx t b⟩
theorem Wk.Dv{a0 arr:Array Keyed}{lo src d:Nat}(w:Wk a0 arr lo)(a:src<a0.size)(hd:lo+d<=src):Wk a0 (bubble arr src d) lo:=
 ⟨(bubble_perm _ _ _).trans w.pm,λt b=>by rw[getElem?_bubble (by rw[w.size];exact a) d (by omega),av (by omega),av (by omega)];exact w.fx t b⟩
abbrev cg(O:KeyOrd)(key:Keyed->O.α)(arr:Array Keyed)(lo n:Nat):Prop:=∀i j,i<=j->j<n->O.kle (kk O key arr (lo+i)) (kk O key arr (lo+j))
abbrev j6(O:KeyOrd)(key:Keyed->O.α)(arr:Array Keyed)(lo n:Nat):Prop:=∀i j,i<=j->j<n->O.kle (kk O key arr (lo+j)) (kk O key arr (lo+i))
theorem mV(cp:Cp M A E s C G (byKey O key)){a0 arr:Array Keyed}{lo i j:Nat}{st:SortSt}{Q:Option Bool->SortSt->Prop}(hk:kindOf st=C)(d:arrOf st=arr)(g:∀x∈a0.toList,G x)(w:Wk a0 arr lo)(hi:i<a0.size)(f:j<a0.size)
  (h:Q (some (O.blt (kk O key arr i) (kk O key arr j))) st):wpS M A E s (ltAt' i j) Q st:=by
 subst d;have a:i<(arrOf st).size:=by rw[w.size];exact hi
 have b:j<(arrOf st).size:=by rw[w.size];exact f
 have c:∀x∈(arrOf st).toList,G x:=λx l=>g x ((nR.mp w.pm).mem_iff.mp l);rw[ltAt'_eq];refine aC (gU (aC (cK a (aC (cK b (cp.lt (c _ (cA _)) (c _ (cA _)) hk ?_))))));have e:∀{k:Nat} (hk:k<(arrOf st).size),kk O key (arrOf st) k=key ((arrOf st).toList[k]'hk):=λ {k} hk=>by
  unfold kk;rw[fZ hk];rfl
 rw[e a,e b] at h;exact h
theorem Du(cp:Cp M A E s C G (byKey O key)){a0 arr:Array Keyed}{lo n ok:Nat}{st:SortSt}{Q:Bool->SortSt->Prop}(hk:kindOf st=C)(g:∀x∈a0.toList,G x)(hn:lo+n<=a0.size)(hok:ok<=n)(F:Wk a0 arr lo)(H:cg O key arr lo ok)
  (h:∀d,Wk a0 d lo->cg O key d lo n->Q true (setArr st d)):wpS M A E s (binarySort' lo n ok) Q (setArr st arr):=by
 rw[binarySort'_eq];refine aC (ez (I:=λk c b=>c=(none,())/\∃a,b=setArr st a/\Wk a0 a lo/\cg O key a lo (min k n)) ?_ ?_ ⟨rfl,arr,rfl,F,?_⟩)
 .rintro k c b h1 h2 ⟨rfl,a,rfl,w,asc⟩
  rw[jQ (by omega)] at asc;have ins:∀l,l<=k->(∀i,i<l->O.kle (kk O key a (lo+i)) (kk O key a (lo+k)))->(∀i,l<=i->i<k->O.klt (kk O key a (lo+k)) (kk O key a (lo+i)))->∀R:ForInStep (Option Bool×Unit)->SortSt->Prop,
    (∀f,Wk a0 f lo->cg O key f lo (min (k+1) n)->R (ForInStep.yield (none,())) (setArr st f))->wpS M A E s (do moveDown' (lo+k) (lo+l);pure (ForInStep.yield ((none:Option Bool),()))) R (setArr st a):=λl o p J R K=>by
   rw[moveDown'_eq];refine aC (fH (aE (K _ (w.Dv (by omega) (by omega)) ?_)));rw[jQ (by omega),show lo+k - (lo+l)=k - l by omega];have val:∀i,i<k+1->kk O key (bubble a (lo+k) (k - l)) (lo+i)=if i=l then kk O key a (lo+k) else if l<i then kk O key a (lo+(i - 1)) else kk O key a (lo+i):=λi hi=>by
    have e:=getElem?_bubble (xs:=a) (src:=lo+k) (by rw[w.size];omega) (k - l) (by omega) (lo+i);by_cases y:i=l
    .rw[ao (by omega)] at e;rw[ao y];exact jD e
    .rw[av (by omega)] at e;rw[av y]
     by_cases z:l<i
     .rw[ao (by omega)] at e;rw[ao z]
      rw[show lo+i - 1=lo+(i - 1) by omega] at e;exact jD e
     .rw[av (by omega)] at e;rw[av z];exact jD e
   intro i j m B;show O.kle (kk O key (bubble a (lo+k) (k - l)) (lo+i)) (kk O key (bubble a (lo+k) (k - l)) (lo+j));rw[val i (by omega),val j B];repeat' split
   .exact gR _
   .exact rq (J _ (by omega) (by omega))
   .omega
   .omega
   .exact asc _ _ (by omega) (by omega)
   .omega
   .exact p _ (by omega)
   .exact asc _ _ (by omega) (by omega)
   .exact asc _ _ (by omega) (by omega)
  refine aC (ez (I:=λx c b=>b=setArr st a/\∃l u,c=(none,l,u)/\l<=u/\u<=k/\u - l+x<=k/\
    (∀i,i<l->O.kle (kk O key a (lo+i)) (kk O key a (lo+k)))/\∀i,u<=i->i<k->O.klt (kk O key a (lo+k)) (kk O key a (lo+i))) ?_ ?_ ⟨rfl,0,k,rfl,by omega,by omega,by omega,λi hi=>by omega,λi o p=>by omega⟩)
  case _=>
   rintro x c b _ P ⟨rfl,l,u,rfl,L,t,N,q,r⟩;dsimp only;by_cases D:l≥u
   .rw[ao D]
    obtain rfl:l=u:=by omega
    refine aE ?_;exact ins l t q r _ λf v p2=>⟨rfl,f,rfl,v,p2⟩
   .rw[av D]
    refine aC (mV cp hk rfl g w (by omega) (by omega) ?_);dsimp only;cases e:O.blt (kk O key a (lo+k)) (kk O key a (lo+(l+u)/2)) with
    |true=>exact aE ⟨rfl,l,(l+u)/2,rfl,by omega,by omega,by omega,q,λi o p=>KeyOrd.klt_of_klt_of_kle e (asc _ _ o p)⟩
    |false=>exact aE ⟨rfl,(l+u)/2+1,u,rfl,by omega,by omega,by omega,λi o=>nY (asc i _ (by omega) (by omega)) e,r⟩
  case _=>
   rintro c b ⟨rfl,l,u,rfl,L,t,N,q,r⟩;obtain rfl:l=u:=by omega
   exact ins l t q r _ λf v p2=>⟨rfl,f,rfl,v,p2⟩
 .rintro c b ⟨rfl,a,rfl,w,asc⟩
  rw[show min (max (max ok 1) n) n=n by omega] at asc;exact aE (h a w asc)
 .intro i j m B
  by_cases S:ok=0
  .obtain rfl:i=j:=by omega
   exact gR _
  .exact H i j m (by omega)
end
def kr(lo a nrem:Nat):SM (Option (Option Nat)×Nat):=forIn [a:nrem] ((none,a):Option (Option Nat)×Nat) λ_ c=>do
 match <-ltAt' (lo+c.2) (lo+c.2 - 1) with
 |some w=>if w then pure (.done (none,c.2)) else pure (.yield (none,c.2+1))
 |_=>pure (.done (some none,c.2))
def ku(lo n nrem:Nat):SM (Option Nat):=do
 reverseSlice' lo (lo+n)
 let c <-kr lo n nrem
 match c.1 with
 |some r=>pure r
 |none=>pure (some c.2)
def oQ(lo n nrem:Nat):SM (Option (Option Nat)×Nat×Nat):=forIn [n:nrem] ((none,n,0):Option (Option Nat)×Nat×Nat) λ_ c=>do
 match <-ltAt' (lo+c.2.1) (lo+c.2.1 - 1) with
 |some w=>
  if w then
   if c.2.2>0 then do
    reverseSlice' (lo+c.2.1 - (c.2.2+1)) (lo+c.2.1)
    pure (.yield (none,c.2.1+1,0))
   else pure (.yield (none,c.2.1+1,0))
  else do
   match <-ltAt' (lo+c.2.1 - 1) (lo+c.2.1) with
   |some v=>if v then pure (.done (none,c.2.1,c.2.2)) else pure (.yield (none,c.2.1+1,c.2.2+1))
   |_=>pure (.done (some none,c.2.1,c.2.2))
 |_=>pure (.done (some none,c.2.1,c.2.2))
def l_(lo n nrem:Nat):SM (Option Nat):=do
 rule "list.sort.descending-run"
 let c <-oQ lo (n+1) nrem
 match c.1 with
 |some r=>pure r
 |none=>
  if c.2.2>0 then do
   reverseSlice' (lo+c.2.1 - (c.2.2+1)) (lo+c.2.1)
   ku lo c.2.1 nrem
  else ku lo c.2.1 nrem
theorem DW(lo nrem:Nat):countRun' lo nrem=(do
 let c <-kr lo 1 nrem
 match c.1 with
 |some r=>pure r
 |none=>
  if c.2==nrem then pure (some c.2)
  else if c.2>1 then do
   match <-ltAt' lo (lo+c.2 - 1) with
   |some v=>if v then pure (some c.2) else do
    reverseSlice' lo (lo+c.2)
    l_ lo c.2 nrem
   |_=>pure none
  else l_ lo c.2 nrem):=by
 rw[countRun'_eq]
 have tl:∀n:Nat,ku lo n nrem=(do
   reverseSlice' lo (lo+n)
   let c <-kr lo n nrem
   match c.1 with
   |some r=>pure r
   |none=>pure (some c.2)):=λn=>rfl
 dsimp only[l_,ku,oQ,kr]
 congr 1;funext c
 obtain⟨f,n⟩:=c
 cases f with
 |some q=>rfl
 |none=>
  dsimp only
  split
  .rfl
  .split
   .congr 1;funext o
    cases o with
    |none=>rfl
    |some v=>
     dsimp only
     split
     .rfl
     .congr 1;funext _;congr 1;funext _;congr 1;funext d
      obtain⟨b,m,q⟩:=d
      cases b with
      |some z=>rfl
      |none=>
       dsimp only
       split
       .congr 1;funext _;congr 1;funext _;congr 1;funext e
        obtain⟨a,k⟩:=e
        cases a<;>rfl
       .congr 1;funext _;congr 1;funext e
        obtain⟨a,k⟩:=e
        cases a<;>rfl
   .congr 1;funext _;congr 1;funext d
    obtain⟨b,m,q⟩:=d
    cases b with
    |some z=>rfl
    |none=>
     dsimp only
     split
     .congr 1;funext _;congr 1;funext _;congr 1;funext e
      obtain⟨a,k⟩:=e
      cases a<;>rfl
     .congr 1;funext _;congr 1;funext e
      obtain⟨a,k⟩:=e
      cases a<;>rfl
section
variable{M:Model}{A:Around}{E:aF}{s:Shared}{C:SortKind}{G:Keyed->Prop}{O:KeyOrd}{key:Keyed->O.α}
theorem tZ{arr:Array Keyed}{i j:Nat}(a:j<=arr.size)(t:Nat):kk O key (mirror arr i j ((j - i)/2)) t=if i<=t/\t<j then kk O key arr (i+j - 1 - t) else kk O key arr t:=by
 have e:=getElem?_mirror_all (xs:=arr) (i:=i) a t;split at e
 .rename_i c;rw[ao c];exact jD e
 .rename_i c;rw[av c];exact jD e
theorem mQ{arr:Array Keyed}{i j:Nat}{v:O.α}(a:j<=arr.size)(h:∀t,i<=t->t<j->kk O key arr t=v)(t:Nat):kk O key (mirror arr i j ((j - i)/2)) t=kk O key arr t:=by
 rw[tZ a];split
 .rw[h _ (by omega) (by omega),h t (by omega) (by omega)]
 .rfl
theorem qW{st:SortSt}{arr:Array Keyed}{i j:Nat}{Q:Unit->SortSt->Prop}(h:Q () (setArr st (mirror arr i j ((j - i)/2)))):wpS M A E s (reverseSlice' i j) Q (setArr st arr):=by
 rw[reverseSlice'_eq];exact fH h
variable(cp:Cp M A E s C G (byKey O key)){a0:Array Keyed}{lo nrem:Nat}{st:SortSt}(hk:kindOf st=C)(g:∀x∈a0.toList,G x)(hn:lo+nrem<=a0.size)
include cp hk g hn
theorem xu{arr:Array Keyed}{a:Nat}{Q:Option (Option Nat)×Nat->SortSt->Prop}(w:Wk a0 arr lo)(h1:1<=a)(h2:a<=nrem)(f:cg O key arr lo a)
  (h:∀n,a<=n->n<=nrem->cg O key arr lo n->(n=nrem\/O.klt (kk O key arr (lo+n)) (kk O key arr (lo+(n - 1))))->Q (none,n) (setArr st arr)):wpS M A E s (kr lo a nrem) Q (setArr st arr):=by
 unfold kr;refine ez (I:=λx c b=>b=setArr st arr/\c=(none,x)/\cg O key arr lo x) ?_ ?_ ⟨rfl,rfl,f⟩
 .rintro x c b k l ⟨rfl,rfl,asc⟩
  dsimp only;rw[show lo+x - 1=lo+(x - 1) by omega];refine aC (mV cp hk rfl g w (by omega) (by omega) ?_);dsimp only;cases e:O.blt (kk O key arr (lo+x)) (kk O key arr (lo+(x - 1))) with
  |true=>exact aE (h x k (by omega) asc (.inr e))
  |false=>
   refine aE ⟨rfl,rfl,λi j d m=>?_⟩;rcases fL j x with c|c
   .exact asc i j d c
   .obtain rfl:j=x:=by omega
    rcases fL i j with c'|c'
    .exact nY (asc i (j - 1) (by omega) (by omega)) e
    .obtain rfl:i=j:=by omega
     exact gR _
 .rintro c b ⟨rfl,rfl,asc⟩
  rw[Nat.max_eq_right h2] at asc ⊢;exact h nrem h2 (aI _) asc (.inl rfl)
theorem Ce{arr:Array Keyed}{n:Nat}{Q:Option Nat->SortSt->Prop}(w:Wk a0 arr lo)(h1:1<=n)(h2:n<=nrem)(c:j6 O key arr lo n)
  (h:∀m a,Wk a0 a lo->1<=m->m<=nrem->cg O key a lo m->Q (some m) (setArr st a)):wpS M A E s (ku lo n nrem) Q (setArr st arr):=by
 unfold ku;refine aC (qW ?_);have b:Wk a0 (mirror arr lo (lo+n) ((lo+n - lo)/2)) lo:=w.p5 (aI _) (by omega);refine aC (xu cp hk g hn b h1 h2 ?_ λm f d asc _=>aE (h m _ b (by omega) d asc));intro i j e k;rw[tZ (by rw[w.size];omega),tZ (by rw[w.size];omega),ao (by omega),ao (by omega),show lo+(lo+n) - 1 - (lo+i)=lo+(n - 1 - i) by omega,show lo+(lo+n) - 1 - (lo+j)=lo+(n - 1 - j) by omega];exact c _ _ (by omega) (by omega)
theorem EZ{arr:Array Keyed}{n:Nat}{Q:Option (Option Nat)×Nat×Nat->SortSt->Prop}(w:Wk a0 arr lo)(h1:1<=n)(h2:n<=nrem)(y:j6 O key arr lo n)
  (h:∀m q a,Wk a0 a lo->n<=m->m<=nrem->j6 O key a lo m->q+1<=m->(∀t,lo+m - (q+1)<=t->t<lo+m->kk O key a t=kk O key a (lo+(m - 1)))->Q (none,m,q) (setArr st a)):wpS M A E s (oQ lo n nrem) Q (setArr st arr):=by
 unfold oQ;refine ez (I:=λx c f=>∃q a,f=setArr st a/\c=(none,x,q)/\Wk a0 a lo/\j6 O key a lo x/\q+1<=x/\∀t,lo+x - (q+1)<=t->t<lo+x->kk O key a t=kk O key a (lo+(x - 1))) ?_ ?_ ⟨0,arr,rfl,rfl,w,y,by omega,λt t1 p=>by congr 1;omega⟩
 .rintro x c f z F ⟨q,a,rfl,rfl,w,b,o,l⟩
  dsimp only;rw[show lo+x - 1=lo+(x - 1) by omega];have B:lo+x<=a.size:=by rw[w.size];omega
  refine aC (mV cp hk rfl g w (by omega) (by omega) ?_);dsimp only;cases e:O.blt (kk O key a (lo+x)) (kk O key a (lo+(x - 1))) with
  |true=>
   rw[ao rfl];have d:∀r:Array Keyed,(∀t,kk O key r t=kk O key a t)->j6 O key r lo (x+1):=λr u i j k C=>by
    rw[u,u];rcases fL j x with c|c
    .exact b i j k c
    .obtain rfl:j=x:=by omega
     rcases fL i j with c'|c'
     .exact nY (rq e) (b i (j - 1) (by omega) (by omega))
     .obtain rfl:i=j:=by omega
      exact gR _
   by_cases v:q>0
   .rw[ao v]
    exact aC (qW (aE ⟨0,_,rfl,rfl,w.p5 (by omega) (by omega),d _ (mQ B l),by omega,λt t1 p=>by congr 1;omega⟩))
   .rw[av v]
    exact aE ⟨0,_,rfl,rfl,w,d _ (λ_=>rfl),by omega,λt t1 p=>by congr 1;omega⟩
  |false=>
   rw[av (by simp)];refine aC (mV cp hk rfl g w (by omega) (by omega) ?_);dsimp only;cases D:O.blt (kk O key a (lo+(x - 1))) (kk O key a (lo+x)) with
   |true=>exact aE (h x q a w z (by omega) b o l)
   |false=>
    have eq:kk O key a (lo+x)=kk O key a (lo+(x - 1)):=KeyOrd.kle_antisymm D e;refine aE ⟨q+1,a,rfl,rfl,w,λi j k C=>?_,by omega,λt t1 p=>?_⟩
    .rcases fL j x with c|c
     .exact b i j k c
     .obtain rfl:j=x:=by omega
      rcases fL i j with c'|c'
      .rw[eq];exact b i (j - 1) (by omega) (by omega)
      .obtain rfl:i=j:=by omega
       exact gR _
    .rw[add_sub_cancel,eq]
     rcases fL t (lo+x) with c|c
     .exact l t (by omega) c
     .obtain rfl:t=lo+x:=by omega
      exact eq
 .rintro c f ⟨q,a,rfl,rfl,w,b,o,l⟩
  rw[Nat.max_eq_right h2] at b o l ⊢;exact h nrem q a w h2 (aI _) b o l
theorem z7{arr:Array Keyed}{n:Nat}{Q:Option Nat->SortSt->Prop}(w:Wk a0 arr lo)(h2:n+1<=nrem)(l:j6 O key arr lo (n+1))
  (h:∀m a,Wk a0 a lo->1<=m->m<=nrem->cg O key a lo m->Q (some m) (setArr st a)):wpS M A E s (l_ lo n nrem) Q (setArr st arr):=by
 unfold l_;refine aC (lE ?_);refine aC (EZ cp hk g hn w (by omega) h2 l λm q a c p e b r f=>?_);dsimp only;by_cases k:q>0
 .rw[ao k]
  refine aC (qW (Ce cp hk g hn (c.p5 (by omega) (by omega)) (by omega) e ?_ h));intro i j d o;rw[mQ (by rw[c.size];omega) f,mQ (by rw[c.size];omega) f];exact b i j d o
 .rw[av k]
  exact Ce cp hk g hn c (by omega) e b h
theorem DY{arr:Array Keyed}{Q:Option Nat->SortSt->Prop}(w:Wk a0 arr lo)(h1:1<=nrem)
  (h:∀m a,Wk a0 a lo->1<=m->m<=nrem->cg O key a lo m->Q (some m) (setArr st a)):wpS M A E s (countRun' lo nrem) Q (setArr st arr):=by
 rw[DW];have one:cg O key arr lo 1:=λi j d k=>by
  obtain rfl:i=j:=by omega
  exact gR _
 refine aC (xu cp hk g hn w (aI _) h1 one λn l o asc or=>?_);dsimp only;by_cases f:n=nrem
 .rw[ao (by simpa using f)]
  exact aE (h n arr w l o asc)
 .rw[av (by simpa using f)]
  have b:=or.resolve_left f;by_cases p:n>1
  .rw[ao p,show lo+n - 1=lo+(n - 1) by omega]
   refine aC (mV cp hk rfl g w (by omega) (by omega) ?_);dsimp only;cases e:O.blt (kk O key arr lo) (kk O key arr (lo+(n - 1))) with
   |true=>exact aE (h n arr w l o asc)
   |false=>
    rw[av (by simp)];have flat:∀t,lo<=t->t<lo+n->kk O key arr t=kk O key arr (lo+(n - 1)):=λt t1 r=>by
     have a1:=asc 0 (t - lo) (by omega) (by omega);have a2:=asc (t - lo) (n - 1) (by omega) (by omega);rw[show lo+(t - lo)=t by omega] at a1 a2;exact KeyOrd.kle_antisymm a2 (nY e a1)
    have q:lo+n<=arr.size:=by rw[w.size];omega
    refine aC (qW (z7 cp hk g hn (w.p5 (aI _) (by omega)) (by omega) ?_ h));intro i j d k;rw[mQ q flat,mQ q flat];rcases fL j n with c|c
    .rw[flat _ (by omega) (by omega),flat (lo+i) (by omega) (by omega)];exact gR _
    .obtain rfl:j=n:=by omega
     rcases fL i j with c'|c'
     .rw[flat (lo+i) (by omega) (by omega)];exact rq b
     .obtain rfl:i=j:=by omega
      exact gR _
  .rw[av p]
   obtain rfl:n=1:=by omega
   refine z7 cp hk g hn w (by omega) ?_ h;intro i j d k;rcases fL i j with c'|c'
   .obtain rfl:i=0:=by omega
    obtain rfl:j=1:=by omega
    exact rq b
   .obtain rfl:i=j:=by omega
    exact gR _
end
abbrev Ru:=Nat×Nat×Nat
def qG(size pw:Nat):SM (Option Unit×Unit):=forIn [0:size] ((none,()):Option Unit×Unit) λ_ c=>do
 let st <-get
 match (if (pendingOf st).size>1 then (pendingOf st)[(pendingOf st).size - 2]? else none) with
 |some (_,_,older)=>
  if older<=pw then pure (.done (none,()))
  else do
   let b <-PyProof.Rows.mergeAt' ((pendingOf st).size - 2)
   if !b then pure (.done (some (),())) else pure (.yield (none,()))
 |_=>pure (.done (none,()))
def ny(size lo n:Nat):SM (ForInStep (Option Unit×Nat)):=do
 let st <-get
 match (pendingOf st).back? with
 |some (s1,n1,_)=>do
  let c <-qG size (power' size (2*s1+n1) (2*s1+n1+n1+n) size)
  match c.1 with
  |some r=>pure (.done (some r,lo))
  |none=>do
   modify λs=>setPending s ((pendingOf s).modify ((pendingOf s).size - 1) λ(st,len,_)=>(st,len,power' size (2*s1+n1) (2*s1+n1+n1+n) size))
   modify λs=>setPending s ((pendingOf s).push (lo,n,0))
   pure (.yield (none,lo+n))
 |_=>do
  modify λs=>setPending s ((pendingOf s).push (lo,n,0))
  pure (.yield (none,lo+n))
def qH(size uu lo:Nat):SM (ForInStep (Option Unit×Nat)):=
 if lo≥size then pure (.done (none,lo))
 else do
  match <-countRun' lo (size - lo) with
  |some found=>
   if found<uu then do
    rule "list.sort.binary-insertion"
    let b <-binarySort' lo (min (size - lo) uu) found
    if !b then pure (.done (some (),lo)) else ny size lo (min (size - lo) uu)
   else ny size lo found
  |_=>pure (.done (some (),lo))
def pick(p:Array Ru):Nat:=if (if p.size - 2>0 then p[p.size - 2 - 1]?.map (·.2.1) else none).any (·<(p[p.size - 2+1]?.elim 0 (·.2.1))) then p.size - 2 - 1 else p.size - 2
def nv(size:Nat):SM (Option Unit×Unit):=forIn [0:size] ((none,()):Option Unit×Unit) λ_ c=>do
 let st <-get
 if (pendingOf st).size<=1 then pure (.done (none,()))
 else do
  let b <-PyProof.Rows.mergeAt' (pick (pendingOf st))
  if !b then pure (.done (some (),())) else pure (.yield (none,()))
theorem L1:sortRuns'=(do
 let st <-get
 let c <-forIn [0:(arrOf st).size] ((none,0):Option Unit×Nat) λ_ c=>qH (arrOf st).size (minRun' (arrOf st).size (arrOf st).size 0) c.2
 match c.1 with
 |some r=>pure r
 |none=>do
  let d <-nv (arrOf st).size
  match d.1 with
  |some r=>pure r
  |none=>pure ()):=by
 rw[sortRuns'_eq]
 dsimp only[nv,qH,ny,qG,pick]
 congr 1;funext st
 congr 1
 .congr 1;funext x c
  obtain⟨f,lo⟩:=c
  dsimp only
  split
  .rfl
  .congr 1;funext o
   cases o with
   |none=>rfl
   |some found=>
    dsimp only
    split
    .congr 1;funext _;congr 1;funext b
     cases b with
     |false=>rfl
     |true=>
      congr 1;congr 1;funext a
      cases (pendingOf a).back? with
      |none=>rfl
      |some q=>
       dsimp only
       congr 1;funext d
       obtain⟨e,g⟩:=d
       cases e<;>rfl
    .congr 1;funext a
     cases (pendingOf a).back? with
     |none=>rfl
     |some q=>
      dsimp only
      congr 1;funext d
      obtain⟨e,g⟩:=d
      cases e<;>rfl
 .funext c
  obtain⟨f,lo⟩:=c
  cases f with
  |some r=>rfl
  |none=>
   dsimp only
   congr 1;funext d
   obtain⟨e,g⟩:=d
   cases e<;>rfl
def fD:List Ru->Nat->Nat->Prop
 |[],f,t=>f=t
 |q::rest,f,t=>q.1=f/\0<q.2.1/\fD rest (f+q.2.1) t
theorem qF:∀{p q:List Ru} {f t:Nat},fD (p++q) f t↔∃m,fD p f m/\fD q m t
 |[],q,f,t=>⟨λh=>⟨f,rfl,h⟩,λ⟨m,e,h⟩=>by cases e;exact h⟩
 |x::p,q,f,t=>by
  show(x.1=f/\0<x.2.1/\fD (p++q) (f+x.2.1) t)↔_;rw[qF];exact⟨λ⟨a,b,m,c,d⟩=>⟨m,⟨a,b,c⟩,d⟩,λ⟨m,⟨a,b,c⟩,d⟩=>⟨a,b,m,c,d⟩⟩
theorem nu:∀{p:List Ru} {f t:Nat},fD p f t->f+p.length<=t/\∀q∈p,f<=q.1/\q.1+q.2.1<=t
 |[],f,t,h=>by cases (show f=t from h);exact⟨aI _,λq hq=>by simp at hq⟩
 |x::p,f,t,h=>by
  obtain⟨a,b,c⟩:=h;obtain⟨d,e⟩:=nu c;refine⟨by rw[dZ];omega,λq hq=>?_⟩;rcases aW.mp hq with rfl|hq
  .constructor<;>omega
  .have:=e q hq;constructor<;>omega
section
variable{M:Model}{A:Around}{E:aF}{s:Shared}{C:SortKind}{G:Keyed->Prop}{O:KeyOrd}{key:Keyed->O.α}
theorem pQ{arr:Array Keyed}{lo n i:Nat}(h:lo+n<=arr.size)(hi:i<n)(h2:i<(seg arr lo n).length):kk O key arr (lo+i)=key ((seg arr lo n)[i]'h2):=by
 have h1:lo+i<arr.size:=by omega
 unfold kk;rw[fZ h1,<-seg_at h hi h1 h2];rfl
theorem oJ{arr:Array Keyed}{lo n:Nat}(h:lo+n<=arr.size):cg O key arr lo n↔(seg arr lo n).Pairwise (Le (byKey O key)):=by
 have e:=nA h;refine⟨λa=>lH.mpr λi j hi b d=>?_,λp i j d b=>?_⟩
 .have:=a i j (by omega) (by omega)
  rw[pQ h (by omega) hi,pQ h (by omega) b] at this;exact this
 .rcases fL i j with c|c
  .have:=lH.mp p i j (by omega) (by omega) c
   rw[pQ h (by omega) (by omega),pQ h b (by omega)];exact this
  .obtain rfl:i=j:=by omega
   exact gR _
theorem oH{arr b:Array Keyed}{lo n:Nat}(h:∀t,lo<=t->t<lo+n->b[t]?=arr[t]?)(a:cg O key arr lo n):cg O key b lo n:=λi j c d=>by
 rw[jD (h (lo+i) (by omega) (by omega)),jD (h (lo+j) (by omega) (by omega))];exact a i j c d
structure PI(O:KeyOrd)(key:Keyed->O.α)(C:SortKind)(a0:Array Keyed)(st:SortSt)(lo:Nat):Prop where
 pm:(arrOf st).Perm a0
 fl:failedOf st=none
 kd:kindOf st=C
 le:lo<=a0.size
 ru:fD (pendingOf st).toList 0 lo
 so:∀q∈(pendingOf st).toList,cg O key (arrOf st) q.1 q.2.1
theorem two{p:List Ru}{i:Nat}(h:i+1<p.length):∃pre x y post,p=pre++x::y::post/\pre.length=i:=by
 refine⟨p.take i,p[i],p[i+1],p.drop (i+2),?_,by rw[f6];omega⟩;rw[<-jY (by omega),<-jY (by omega),dY]
theorem joined(cp:Cp M A E s C G (byKey O key)){a0:Array Keyed}{st:SortSt}{lo i:Nat}{Q:Bool->SortSt->Prop}(g:∀x∈a0.toList,G x)(pi:PI O key C a0 st lo)(hi:i+1<(pendingOf st).size)
  (h:∀b,PI O key C a0 b lo->(pendingOf b).size+1=(pendingOf st).size->(∀t,lo<=t->(arrOf b)[t]?=(arrOf st)[t]?)->Q true b):wpS M A E s (PyProof.Rows.mergeAt' i) Q st:=by
 show wpS M A E s (TS.mergeAt' i) Q st;obtain⟨pre,⟨sa,na,c⟩,⟨sb,nb,d⟩,post,e,k⟩:=two (p:=(pendingOf st).toList) (i:=i) (by simpa using hi);have ru:=pi.ru;rw[e,qF] at ru;obtain⟨m,z,B,D,F,H,o⟩:=ru;dsimp only at B D F H o;subst B F;have in1:=nu z;have f:=nu o;have r:sa+na+nb<=(arrOf st).size:=by rw[pi.pm.size_eq];have:=pi.le;omega
 have K:(pendingOf st)[i]?=some (sa,na,c):=by
  rw[<-ie,e,jZ (by omega),k,sub_self];rfl
 have L:(pendingOf st)[i+1]?=some (sa+na,nb,d):=by
  rw[<-ie,e,jZ (by omega),k,rF];rfl
 have np:(((pendingOf st).setIfInBounds i (sa,na+nb,c)).eraseIdxIfInBounds (i+1)).toList=pre++(sa,na+nb,c)::post:=by
  rw[Array.toList_eraseIdxIfInBounds,Array.toList_setIfInBounds,e,vK _ _ (by omega),k,sub_self,List.set_cons_zero,List.eraseIdx_append_of_length_le (by omega),k,rF];rfl
 have N:∀x∈(arrOf st).toList,G x:=λx u=>g x ((nR.mp pi.pm).mem_iff.mp u);have gs:∀(l n:Nat),∀x∈seg (arrOf st) l n,G x:=λl n x u=>N x (dD (cZ u));have v:sa+na<=(arrOf st).size:=by omega
 have P:=(oJ v).mp (pi.so (sa,na,c) (by rw[e];simp));have R:=(oJ r).mp (pi.so (sa+na,nb,d) (by rw[e];simp));refine Iq K L ?_;refine(Il cp (st:=uY st (((pendingOf st).setIfInBounds i (sa,na+nb,c)).eraseIdxIfInBounds (i+1))) pi.kd pi.fl rfl D H r (gs _ _) (gs _ _) P R ?_);intro a gl Z j I sz;have j:a.toList=(arrOf st).toList.take sa++Z++(arrOf st).toList.drop (sa+na+nb):=j;have same:(arrOf st).toList=(arrOf st).toList.take sa++(seg (arrOf st) sa na++seg (arrOf st) (sa+na) nb)++(arrOf st).toList.drop (sa+na+nb):=by
  rw[bz,bz,<-cut,<-cut,dY]
 have pm:a.Perm (arrOf st):=by
  refine nR.mpr ?_;rw[j];refine Perm.trans ?_ (Perm.of_eq same.symm);exact gV _ (gv _ I)
 have J:Z.length=na+nb:=by
  rw[I.length_eq,b_,nA (by omega),nA r]
 have lt:((arrOf st).toList.take sa).length=sa:=by rw[f6,bH];omega
 have out:∀t,(t<sa\/sa+na+nb<=t)->a[t]?=(arrOf st)[t]? :=λt ht=>by
  rw[<-ie,<-ie,j];rcases ht with ht|ht
  .rw[bz,ic (by omega),List.getElem?_take,ao ht]
  .rw[jZ (by rw[b_];omega),List.getElem?_drop,b_,lt,J]
   congr 1;omega
 have w:seg a sa (na+nb)=Z:=by
  unfold seg;rw[j,bz,List.drop_append,jm (by omega),lt,sub_self,lQ,jR,List.take_append,fG (by omega),J,sub_self,List.take_zero,gW]
 refine h _ ⟨pm.trans pi.pm,pi.fl,pi.kd,pi.le,?_,?_⟩ ?_ ?_
 .show fD (((pendingOf st).setIfInBounds i (sa,na+nb,c)).eraseIdxIfInBounds (i+1)).toList 0 lo
  rw[np];exact qF.mpr ⟨sa,z,rfl,by show 0<na+nb;omega,by show fD post (sa+(na+nb)) lo;rw[<-Nat.add_assoc];exact o⟩
 .show ∀q∈(((pendingOf st).setIfInBounds i (sa,na+nb,c)).eraseIdxIfInBounds (i+1)).toList,cg O key a q.1 q.2.1
  rw[np];intro q hq;rcases bF.mp hq with hq|hq
  .have:=in1.2 q hq
   exact oH (λt t1 S=>out t (.inl (by omega))) (pi.so q (by rw[e];exact j4 _ hq))
  .rcases aW.mp hq with rfl|hq
   .have y:sa+(na+nb)<=a.size:=by rw[pm.size_eq];omega
    exact(oJ y).mpr (by rw[w];exact sz)
   .have:=f.2 q hq
    exact oH (λt t1 S=>out t (.inr (by omega))) (pi.so q (by rw[e];simp[hq]))
 .show(((pendingOf st).setIfInBounds i (sa,na+nb,c)).eraseIdxIfInBounds (i+1)).size+1=_
  rw[<-bH,np,<-bH (xs:=pendingOf st),e];simp only[b_,dZ];omega
 .intro t ht
  exact out t (.inr (by have:=f.1;omega))
end
abbrev re(pw:Nat):Ru->Ru:=λ(a,b,_)=>(a,b,pw)
theorem AL{a:Nat}:∀{p:List Ru} {i f t:Nat},fD p f t->fD (p.modify i (re a)) f t
 |[],i,f,t,h=>by rw[List.modify_nil];exact h
 |x::p,0,f,t,h=>h
 |x::p,i+1,f,t,h=>⟨h.1,h.2.1,AL h.2.2⟩
theorem zJ{b:Nat}:∀{p:List Ru} {i:Nat} {q:Ru},q∈p.modify i (re b)->∃a∈p,a.1=q.1/\a.2.1=q.2.1
 |[],i,q,h=>by rw[List.modify_nil] at h;cases h
 |x::p,0,q,h=>by
  rcases aW.mp (show q∈re b x::p from h) with rfl|h
  .exact⟨x,bJ,rfl,rfl⟩
  .exact⟨q,bE _ h,rfl,rfl⟩
 |x::p,i+1,q,h=>by
  rcases aW.mp (show q∈x::p.modify i (re b) from h) with rfl|h
  .exact⟨q,bJ,rfl,rfl⟩
  .obtain⟨a,h1,h2⟩:=zJ h
   exact⟨a,bE _ h1,h2⟩
section
variable{M:Model}{A:Around}{E:aF}{s:Shared}{C:SortKind}{G:Keyed->Prop}{O:KeyOrd}{key:Keyed->O.α}
variable(cp:Cp M A E s C G (byKey O key)){a0:Array Keyed}(g:∀x∈a0.toList,G x)
theorem PI.push{st:SortSt}{lo n:Nat}(pi:PI O key C a0 st lo)(hn:0<n)(a:lo+n<=a0.size)(as:cg O key (arrOf st) lo n):PI O key C a0 (setPending st ((pendingOf st).push (lo,n,0))) (lo+n):=by
 have e:((pendingOf st).push (lo,n,0)).toList=(pendingOf st).toList++[(lo,n,0)]:=jT;refine⟨pi.pm,pi.fl,pi.kd,a,?_,?_⟩
 .show fD ((pendingOf st).push (lo,n,0)).toList 0 (lo+n)
  rw[e];exact qF.mpr ⟨lo,pi.ru,rfl,hn,rfl⟩
 .show ∀q∈((pendingOf st).push (lo,n,0)).toList,cg O key (arrOf st) q.1 q.2.1
  rw[e];intro q hq;rcases bF.mp hq with hq|hq
  .exact pi.so q hq
  .rw[bV.mp hq];exact as
theorem PI.re{st:SortSt}{lo i a:Nat}(pi:PI O key C a0 st lo):PI O key C a0 (setPending st ((pendingOf st).modify i (re a))) lo:=by
 have e:((pendingOf st).modify i (TS.re a)).toList=(pendingOf st).toList.modify i (TS.re a):=Array.toList_modify;refine⟨pi.pm,pi.fl,pi.kd,pi.le,?_,?_⟩
 .show fD ((pendingOf st).modify i (TS.re a)).toList 0 lo
  rw[e];exact AL pi.ru
 .show ∀q∈((pendingOf st).modify i (TS.re a)).toList,cg O key (arrOf st) q.1 q.2.1
  rw[e];intro q b;obtain⟨c,h1,h2,h3⟩:=zJ b;rw[<-h2,<-h3];exact pi.so c h1
theorem PI.arr{st:SortSt}{lo:Nat}{a:Array Keyed}(pi:PI O key C a0 st lo)(w:Wk (arrOf st) a lo):PI O key C a0 (setArr st a) lo:=by
 refine⟨w.pm.trans pi.pm,pi.fl,pi.kd,pi.le,pi.ru,λq b=>?_⟩;have:=(nu pi.ru).2 q b;exact oH (λt t1 c=>w.fx t (by omega)) (pi.so q b)
include cp g
theorem K_{st:SortSt}{lo n size i:Nat}{Q:Option Unit×Unit->SortSt->Prop}(pi:PI O key C a0 st lo)(as:cg O key (arrOf st) lo n)
  (h:∀a,PI O key C a0 a lo->cg O key (arrOf a) lo n->Q (none,()) a):wpS M A E s (qG size i) Q st:=by
 unfold qG;refine ez (I:=λx c a=>c=(none,())/\PI O key C a0 a lo/\cg O key (arrOf a) lo n) ?_ ?_ ⟨rfl,pi,as⟩
 .rintro x c a _ _ ⟨rfl,b,d⟩
  refine aC (gU ?_);by_cases f:(pendingOf a).size>1
  .rw[ao f]
   cases e:(pendingOf a)[(pendingOf a).size - 2]? with
   |none=>exact aE (h a b d)
   |some q=>
    dsimp only;split
    .exact aE (h a b d)
    .refine aC (joined cp g b (by omega) λj p2 _ f2=>?_)
     exact aE ⟨rfl,p2,oH (λt t1 _=>f2 t t1) d⟩
  .rw[av f]
   exact aE (h a b d)
 .rintro c a ⟨rfl,b,d⟩
  exact h a b d
theorem AR{st:SortSt}{lo n size:Nat}{R:ForInStep (Option Unit×Nat)->SortSt->Prop}(pi:PI O key C a0 st lo)(as:cg O key (arrOf st) lo n)(hn:0<n)(d:lo+n<=a0.size)
  (h:∀a,PI O key C a0 a (lo+n)->R (.yield (none,lo+n)) a):wpS M A E s (ny size lo n) R st:=by
 unfold ny;refine aC (gU ?_);cases e:(pendingOf st).back? with
 |none=>exact aC (fH (aE (h _ (pi.push hn d as))))
 |some q=>
  dsimp only;refine aC (K_ cp g pi as λa b c=>?_);dsimp only;exact aC (fH (aC (fH (aE (h _ ((PI.re b).push hn d c))))))
theorem Lg{st:SortSt}{lo b:Nat}{R:ForInStep (Option Unit×Nat)->SortSt->Prop}(pi:PI O key C a0 st lo)
  (h1:lo=a0.size->R (.done (none,lo)) st)(h2:∀n c,0<n->PI O key C a0 c (lo+n)->R (.yield (none,lo+n)) c):wpS M A E s (qH a0.size b lo) R st:=by
 unfold qH;have l:=pi.le;have e:∀x∈(arrOf st).toList,G x:=λx j=>g x ((nR.mp pi.pm).mem_iff.mp j);have f:(arrOf st).size=a0.size:=pi.pm.size_eq;by_cases h:lo≥a0.size
 .rw[ao h]
  exact aE (h1 (by omega))
 .rw[av h]
  refine aC (DY cp (st:=st) (arr:=arrOf st) pi.kd e (by rw[f];omega) ⟨Array.Perm.refl _,λ_ _=>rfl⟩ (by omega) λm a w o p as=>?_);dsimp only;by_cases i:m<b
  .rw[ao i]
   refine aC (lE ?_);refine aC (Du cp pi.kd e (by rw[f];omega) (by omega) w as λr k d=>?_);exact AR cp g (pi.arr k) d (by omega) (by omega) λc q=>h2 _ c (by omega) q
  .rw[av i]
   exact AR cp g (pi.arr w) as (by omega) (by omega) λc q=>h2 _ c (by omega) q
theorem K5{st:SortSt}{Q:Option Unit×Unit->SortSt->Prop}(pi:PI O key C a0 st a0.size)
  (h:∀a,PI O key C a0 a a0.size->(pendingOf a).size<=1->Q (none,()) a):wpS M A E s (nv a0.size) Q st:=by
 unfold nv;refine ez (I:=λx c a=>c=(none,())/\PI O key C a0 a a0.size/\((pendingOf a).size<=1\/(pendingOf a).size+x<=a0.size)) ?_ ?_ ⟨rfl,pi,.inr ?_⟩
 .rintro x c a _ _ ⟨rfl,d,o⟩
  refine aC (gU ?_);by_cases e:(pendingOf a).size<=1
  .rw[ao e]
   exact aE (h a d e)
  .rw[av e]
   have f:pick (pendingOf a)+1<(pendingOf a).size:=by
    have two:∀(b:Bool) (n:Nat),1<n->(if b=true then n - 2 - 1 else n - 2)+1<n:=λb n hn=>by
     cases b
     .rw[av (by simp)];omega
     .rw[ao rfl];omega
    exact two _ _ (by omega)
   refine aC (joined cp g d f λi p2 j _=>?_);exact aE ⟨rfl,p2,.inr (by omega)⟩
 .rintro c a ⟨rfl,d,o⟩
  exact h a d (by omega)
 .have:=(nu pi.ru).1
  rw[bH] at this;omega
theorem L3{st:SortSt}{Q:Unit->SortSt->Prop}(hk:kindOf st=C)(u:failedOf st=none)(l:pendingOf st= #[])(m:arrOf st=a0)
  (h:∀a,(arrOf a).Perm a0->failedOf a=none->cg O key (arrOf a) 0 a0.size->Q () a):wpS M A E s sortRuns' Q st:=by
 have v:PI O key C a0 st 0:=⟨by rw[m],u,hk,c5 _,by rw[l];rfl,λq o=>by rw[l] at o;cases o⟩
 rw[L1]
 refine aC (gU ?_)
 rw[m]
 have last:∀a,PI O key C a0 a a0.size->wpS M A E s (do
   let d <-nv a0.size
   match d.1 with
   |some r=>pure r
   |none=>pure ()) Q a:=λa b=>by
  refine aC (K5 cp g b λf p2 p=> ?_)
  refine aE (h f p2.pm p2.fl ?_)
  have ru:=p2.ru
  have so:=p2.so
  rw[<-bH] at p
  match e:(pendingOf f).toList,p with
  |[],_=>
   rw[e] at ru
   have:0=a0.size:=ru
   intro i j _ y
   omega
  |[q],_=>
   rw[e] at ru so
   obtain⟨w,_,t⟩:=ru
   have t:0+q.2.1=a0.size:=t
   have:=so q (bV.mpr rfl)
   rw[w,show q.2.1=a0.size by omega] at this
   exact this
  |_::_::_,z=>simp at z
 refine aC (ez (I:=λx c a=>∃lo,c=(none,lo)/\PI O key C a0 a lo/\x<=lo) ?_ ?_ ⟨0,rfl,v,aI _⟩)
 .rintro x c a _ B ⟨lo,rfl,b,k⟩
  refine Lg cp g b (λe=> ?_) (λn f hn p2=>⟨lo+n,rfl,p2,by omega⟩)
  subst e
  exact last a b
 .rintro c a ⟨lo,rfl,b,k⟩
  have:=b.le
  obtain rfl:lo=a0.size:=by omega
  exact last a b
end
open PySem.W PySem.Spec
section
variable{prog:Program}{w:World}{A:Around}{E:aF}{s:Shared}
theorem vO{a:List Value}{x:Keyed}(h:x∈(a.toArray.zip a.toArray).toList):x.1∈a/\x.2=x.1:=by
 rw[Array.toList_zip] at h;obtain⟨i,hi,rfl⟩:=lS h;rw[List.getElem_zip];exact⟨cA _,rfl⟩
theorem vP(a:List Value):(a.toArray.zip a.toArray).toList.map (·.2)=a:=by
 rw[Array.toList_zip];exact List.map_snd_zip (aI _)
theorem Ig{κ:SortKind}{O:KeyOrd}{key:Value->O.α}{a:Addr}{c:List Value}{n:Nat}{P:PySem.Fin->Shared->Prop}(t:s.heap.get? a=some (seqObj "list" c.toArray n))(F:c.length<=sizeLine)
  (hk:∀s':Shared,(∀b o,b≠a->s.heap.get? b=some o->s'.heap.get? b=some o)->2<=c.length->∀R:SortKind->Shared->Prop,R κ s'->wpAny (model prog w) A (keyKind' c.toArray) R (λ_ _=>False) s')
  (hc:∀s':Shared,(∀b o,b≠a->s.heap.get? b=some o->s'.heap.get? b=some o)->∀x∈c,∀y∈c,∀(R:Bool->Shared->Prop) (E:aF),R (O.blt (key x) (key y)) s'->wpAny (model prog w) A (keyLt' κ x y) R E s')
  (h:∀ys:List Value,ys.Perm c->ys.Pairwise (λx y=>O.kle (key x) (key y))->P (.done (.ret .none)) {s with heap:=sortedHeap s.heap a c ys.toArray}):
  wpAny (model prog w) A (Builtin.«list.sort» ⟨[.ref a],[]⟩) P E s:=by
 rw[list_sort_plain]
 have G:a<s.heap.objs.size:=aQ t
 refine ah (listItems_at t rfl ?_)
 refine ah (listUpdate_at t rfl ?_ (by rw[bY];exact F) (c5 _))
 obtain⟨k,l⟩:∃k,(s.heap.update a (Obj.mapSeq λ_=>(#[]:Array Value))).get? a=some (seqObj "list" #[] k):=⟨_,get?_update_seq t λ_=> #[]⟩
 refine ah (seqEpoch_at l rfl ?_)
 refine ah (wpAny_newTuple ?_ (by show c.length<=_;exact F))
 refine ah (wpAny_newList ?_ (c5 _))
 refine fY ?_
 have f:(((s.heap.update a (Obj.mapSeq λ_=>(#[]:Array Value))).push (seqObj "tuple" c.toArray 0)).push (seqObj "list" #[] 0)).get? a=some (seqObj "list" #[] k):=by
  rw[Heap.get?_push_ne _ _ _ (by rw[size_push',Heap.size_update];exact bq (fj G)),Heap.get?_push_ne _ _ _ (by rw[Heap.size_update];exact bq G)]
  exact l
 have kp:∀b o,b≠a->s.heap.get? b=some o->(((s.heap.update a (Obj.mapSeq λ_=>(#[]:Array Value))).push (seqObj "tuple" c.toArray 0)).push (seqObj "list" #[] 0)).get? b=some o:=λb o L q=>
  bw _ (bw _ (by rw[Heap.get?_update_ne _ _ _ _ L];exact q))
 show wpAny (model prog w) A _ P E {s with heap:=((s.heap.update a (Obj.mapSeq λ_=>(#[]:Array Value))).push (seqObj "tuple" c.toArray 0)).push (seqObj "list" #[] 0)}
 dsimp only
 have M:(c.toArray.zip c.toArray).toList.length=c.length:=by
  have:=cz List.length (vP c)
  rwa [bB] at this
 by_cases h2:c.toArray.size<2
 .rw[ao h2,ao h2]
  refine ah (aB ?_)
  rw[StateT.run_pure]
  refine ah (aB ?_)
  dsimp only
  have H:c.length<2:=by simpa using h2
  have e:=h c (Perm.refl _) (lH.mpr λi j hi hj N=>by omega)
  have v:(arrOf (SortSt.mk' general' (c.toArray.zip c.toArray) #[] 7 none)).map (·.2)=c.toArray:=by
   apply toList_inj.mp
   rw[Array.toList_map]
   exact vP c
  rw[v]
  refine ah (seqEpoch_at f rfl ?_)
  refine ah (listUpdate_at f rfl ?_ (c5 _) (by rw[bY];omega))
  simp only[jj,fJ,dQ]
  exact aB e
 .rw[av h2,av h2]
  have H:2<=c.length:=by
   have:c.toArray.size=c.length:=by simp
   omega
  obtain⟨g,B⟩:∃g:Shared,g={s with heap:=((s.heap.update a (Obj.mapSeq λ_=>(#[]:Array Value))).push (seqObj "tuple" c.toArray 0)).push (seqObj "list" #[] 0)}:=⟨_,rfl⟩
  have m:∀b o,b≠a->s.heap.get? b=some o->g.heap.get? b=some o:=by rw[B];exact kp
  rw[<-B]
  refine ah (jV (hk g m H (λp s'=>p=κ/\s'=g) ⟨rfl,rfl⟩) ?_ λ_ _ x=>x.elim)
  rintro p s' ⟨S,es⟩
  rw[S,es]
  have cp:Cp (model prog w) A E g κ (λx:Keyed=>x.1∈c/\x.2=x.1) (byKey O λx=>key x.1):=by
   refine⟨λ {x y st Q} T U hk q=> ?_,λ {x y} _ _ e=>KeyOrd.klt_asymm e,λ {x y z} _ _ _ k V=>nY k V⟩
   rw[lt'_eq]
   refine aC (gU ?_)
   rw[hk]
   refine aC (wpS_lift (nU (hc g m x.1 T.1 y.1 U.1 _ _ ⟨rfl,?_⟩)))
   exact aE q
  refine ah (jV (L3 cp (a0:=c.toArray.zip c.toArray) (st:=SortSt.mk' κ (c.toArray.zip c.toArray) #[] 7 none) (λx C=>vO C) rfl rfl rfl rfl
   (Q:=λ_ d=>(arrOf d).Perm (c.toArray.zip c.toArray)/\failedOf d=none/\cg O (λx=>key x.1) (arrOf d) 0 (c.toArray.zip c.toArray).size) λd r W u=>⟨r,W,u⟩) ?_ λ_ _ e=>e)
  rintro ⟨⟨⟩,d⟩ X ⟨D,r,I,u⟩
  dsimp only at r I u ⊢
  rw[D]
  have pm:=nR.mp r
  have J:(arrOf d).size=(c.toArray.zip c.toArray).size:=r.size_eq
  have Y:seg (arrOf d) 0 (c.toArray.zip c.toArray).size=(arrOf d).toList:=by
   unfold seg
   rw[lQ,<-J]
   exact fG (by rw[bH];exact aI _)
  have K:=(oJ (by rw[J,Nat.zero_add];exact aI _)).mp u
  rw[Y] at K
  have py:((arrOf d).toList.map (·.2)).Perm c:=by
   have:=pm.map (·.2)
   rwa [vP] at this
  have so:((arrOf d).toList.map (·.2)).Pairwise (λx y=>O.kle (key x) (key y)):=by
   rw[List.pairwise_map]
   refine K.imp_of_mem λ {x y} C Z e=> ?_
   rw[(vO (pm.mem_iff.mp C)).2,(vO (pm.mem_iff.mp Z)).2]
   exact e
  have v:(arrOf d).map (·.2)=((arrOf d).toList.map (·.2)).toArray:=by
   apply toList_inj.mp
   rw[Array.toList_map]
  rw[v]
  subst B
  refine ah (seqEpoch_at f rfl ?_)
  refine ah (listUpdate_at f rfl ?_ (c5 _) (by rw[bY,py.length_eq];omega))
  rw[I]
  simp only[jj,fJ,dQ]
  exact aB (h _ py so)
end
abbrev nB(v:Value):List Nat:=match v with|.str x _=>x.cps.toList|_=>[]
section
variable{prog:Program}{w:World}{A:Around}{E:aF}{s:Shared}
theorem L6{x:Str}{t:Tok}{Q:aF}(y:A.in1.handled=none)(J:x.cps.size<=100000)(K:100000<sizeLine)
  (h:∀(l ys:List Value) (s':Shared) (D:Addr) (e:Nat),l.length=x.cps.size->(∀i v,l[i]?=some v->SignAt x i v)->ys.Perm l->ys.Pairwise (λa b=>¬nB b<nB a)->(∀o,s.heap.get? D≠some o)->
   s'.heap.get? D=some (seqObj "list" ys.toArray e)->(∀b o,s.heap.get? b=some o->s'.heap.get? b=some o)->s'.gens=s.gens->s'.drawn=s.drawn->s'.os=s.os->Q (.ref D) s'):
  wpAny (model prog w) A (call (.builtin "sorted") [.str x t]) Q E s:=by
 refine Calls.call_function_entry kind_sorted plain_sorted entry_sorted (args_sorted1 _) ?_;unfold Builtin.«sorted»;refine ah (m:=checkCount "sorted" 1 1 _) (aB ?_);refine ah (wpAny_collect_str y x t (λf acc d g1 z B it=>?_) (by omega));have j:acc.toList.length=x.cps.size:=by rw[bH];exact it.1
 refine ah (wpAny_newList ?_ (by omega));have g:(f.heap.push (seqObj "list" acc.toList.toArray 0)).get? f.heap.objs.size=some (seqObj "list" acc.toList.toArray 0):=bK _ rfl;have keep:∀b o,s.heap.get? b=some o->(f.heap.push (seqObj "list" acc.toList.toArray 0)).get? b=some o:=λb o q=>bw _ (d b o q);have ne:∀b o,s.heap.get? b=some o->b≠f.heap.objs.size:=λb o q=>bq (aQ (d b o q));have n:∀v∈acc.toList,∃a u,v=Value.str a u:=λv p=>by
  obtain⟨i,hi,rfl⟩:=lS p;obtain⟨c,u,_,e⟩:=it.2 i _ (by rw[<-ie,bS hi]);exact⟨_,u,e⟩
 show wpAny _ _ _ _ _ {f with heap:=f.heap.push (seqObj "list" acc.toList.toArray 0)};refine ah (fY (iP slot_list_sort ⟨_,g,rfl⟩ entry_list_sort ?body (args_list_sort _)));case body=>
  refine Ig (κ:=oneType') (O:=strKind.toKeyOrd) (key:=nB) (s:={f with heap:=f.heap.push (seqObj "list" acc.toList.toArray 0)})
   g (by omega) (λs' k h2 R r=>?_) (λs' k a C b F R L r=>?_) λys G H=>⟨_,rfl,aB ⟨_,rfl,?_⟩⟩
  .refine kas_kind (T:=Value.type "str") h2 (λv p=>?_) (by decide) (by decide) r
   obtain⟨a,u,rfl⟩:=n v p;exact Looks.of_pure rfl
  .obtain⟨a,u,rfl⟩:=n a C
   obtain⟨b,M,rfl⟩:=n b F;exact kas_lt_str r
  .obtain⟨e,I⟩:=sortedHeap_at (out:=ys.toArray) g
   refine h acc.toList ys _ _ e j (λi v q=>it.2 i v (by rw[<-ie];exact q)) G ?_ (λo q=>ne _ o q rfl) I (λb o q=>?_) g1 z B
   .refine H.imp λ {a b} q=>?_
    have q:decide (nB b<nB a)=false:=q;simpa using q
   .rw[sortedHeap_old (ne b o q) (aQ (keep b o q))]
    exact keep b o q
end
end TS
section
open PySem PySem.Spec PyProof.Rows
namespace L2
open PySem.SeqAt
def signs(x:Str):List Str:=x.cps.toList.map λc=>(⟨#[c]⟩:Str)
def nG(v:Value):Str:=match v with|.str a _=>a|_=>⟨#[]⟩
abbrev iM(a b:Str):Prop:=¬b.cps.toList<a.cps.toList
theorem LQ{x:Str}{d:List Value}(h1:d.length=x.cps.size)(h2:∀i v,d[i]?=some v->SignAt x i v):d.map nG=signs x:=by
 show _=x.cps.toList.map λc=>(⟨#[c]⟩:Str);have f:x.cps.toList.length=x.cps.size:=bH;refine List.ext_getElem (by rw[bB,bB,h1,f]) λi a b=>?_;have hi:i<d.length:=by rw[bB] at a;exact a
 have g:i<x.cps.size:=by omega
 obtain⟨c,u,e,h⟩:=h2 i _ (bS hi);rw[fZ g] at e;rw[List.getElem_map,List.getElem_map,h,Array.getElem_toList,Option.some.inj e];rfl
theorem LP{a b:List Str}(c:a.Perm b)(d:a.Pairwise iM)(e:b.Pairwise iM):a=b:=by
 refine c.eq_of_pairwise (λx y _ _ h1 h2=>?_) d e;have:x.cps.toList=y.cps.toList:=le_antisymm (not_lt.mp h1) (not_lt.mp h2);cases x;cases y;congr 1;exact toList_inj.mp this
section
variable{X:Cx}
theorem xG(hc:X.calm=true):cV X (.builtin "sorted") (λxs H Q=>∃x:Str,xs=[.str x]/\x.cps.size<=1000/\
  ∀(l:Addr) (ys:List Str),H l=none->ys.Perm (signs x)->ys.Pairwise iM->Q (.ref l) (upd H l (.lst (ys.map V.str)))):=by
 intro pins s σ H xs K Q I r h;obtain⟨x,rfl,g,q⟩:=h;obtain⟨u,rfl,ru⟩:=vals1 r;obtain⟨t,rfl⟩:=ru;refine TS.L6 (I.ok.hd hc) (by omega) (by decide) λL ys s' D e n v2 m p f y kp g1 g2 g3=>?_;have hn:H D=none:=by
  cases A:H D with
  |none=>rfl
  |some o=>
   obtain⟨u,z⟩:=(I.hok _ _ A).obj;exact absurd z (f u)
 have d:∀v∈ys,∃a u,v=Value.str a u:=λv B=>by
  obtain⟨i,hi,rfl⟩:=lS (m.mem_iff.mp B);obtain⟨c,u,_,C⟩:=v2 i _ (bS hi);exact⟨_,u,C⟩
 have p2:(ys.map nG).Perm (signs x):=by
  rw[<-LQ n v2];exact m.map _
 have E:(ys.map nG).Pairwise iM:=by
  rw[List.pairwise_map];refine p.imp_of_mem λ {a b} F j q=>?_;obtain⟨a,u,rfl⟩:=d a F;obtain⟨b,M,rfl⟩:=d b j;exact q
 refine⟨.ref D,upd H D (.lst ((ys.map nG).map V.str)),?_,rfl,q D _ hn p2 E⟩;have es:s'={s with heap:=s'.heap,toks:=s'.toks}:=by
  cases s';cases s;simp only at g1 g2 g3;subst g1 g2 g3;rfl
 rw[es];refine I.uo (t':=s'.toks) kp (kc.new hn _) λb o k=>?_;by_cases j:b=D
 .subst j
  rw[fX] at k;cases k;refine .inr ⟨f,?_⟩;refine⟨by rw[bB,bB,m.length_eq,n];exact cM g (by decide),ys,e,?_,y⟩;have all:∀zs:List Value,(∀v∈zs,∃a u,v=Value.str a u)->Vals ((zs.map nG).map V.str) zs:=by
   intro zs g;induction zs with
   |nil=>exact .nil
   |cons v zs G=>
    obtain⟨a,u,rfl⟩:=g v bJ;exact .cons ⟨u,rfl⟩ (G λw J=>g w (bE _ J))
  exact all ys d
 .rw[bA j] at k
  exact .inl k
end
end L2
namespace DP
open L2
@[irreducible] def qN(x:Str)(A:Ar)(R:DK):Prop:=x.cps.size<=1000/\∀ys:List Str,ys.Perm (L2.signs x)->ys.Pairwise iM->R (.ref A.length) (A++[.lst (ys.map D.str)])
def B_:fm:=λvs A R=>match vs with
 |[.str x]=>qN x A R
 |_=>False
theorem xY{mg:au}:fN mg (λxs H Q=>∃x:Str,xs=[.str x]/\x.cps.size<=1000/\
  ∀(l:Addr) (ys:List Str),H l=none->ys.Perm (L2.signs x)->ys.Pairwise iM->Q (.ref l) (upd H l (.lst (ys.map V.str)))) B_:=by
 intro ds A ι H d R Q ra rs h k;unfold B_ at h;split at h
 .rename_i x
  obtain⟨_,_,rfl,h1,rfl⟩:=rs;cases (show _=V.str x from h1);unfold qN at h;exact⟨x,rfl,h.1,λl ys a b c=>k7 k ra (aq.strs ys) (h.2 ys b c) a⟩
 .exact h.elim
theorem Ca{A:Ar}{x:Str}{R:DK}(h:x.cps.size<=1000)(k:∀ys:List Str,ys.Perm (L2.signs x)->ys.Pairwise iM->R (.ref A.length) (A++[.lst (ys.map D.str)])):qN x A R:=by
 unfold qN;exact⟨h,k⟩
end DP
variable{P:Program}{w:World}{K:Frag}{mg:au}{base:Heap}
namespace My
open L2 DP
def top(i:Nat):Stmt:=PySem.Challenge.pw_hangstill_k36_whole_written_and_turned.main.body.getD i (.Pass ⟨0,0,0,0⟩)
abbrev uW:Stmt:=top 10
abbrev iJ:List Str:=["thing","first","last"]
theorem BL:aR ["thing","first","last"] iJ (aH uW):=bh
abbrev uU:Stmt:=top 11
abbrev gM:List Str:=["thing"]
theorem BJ:aR ["thing"] gM (aH uU):=bh
abbrev uT:Stmt:=top 12
abbrev jM:List Str:=["thing","rods"]
theorem BI:aR ["thing","rods"] jM (aH uT):=bh
abbrev uS:Stmt:=top 13
abbrev jL:List Str:=["thing"]
theorem BH:aR ["thing"] jL (aH uS):=bh
abbrev uR:Stmt:=top 14
abbrev iI:List Str:=["thing"]
theorem BG:aR ["thing"] iI (aH uR):=bh
abbrev uV:Stmt:=top 15
abbrev jN:List Str:=["thing"]
theorem BK:aR ["thing"] jN (aH uV):=bh
abbrev uX:Stmt:=top 16
abbrev jd:List Str:=["thing"]
theorem BN:aR ["thing","names"] jd (aH uX):=bh
abbrev uQ:Stmt:=top 17
abbrev jK:List Str:=["thing"]
theorem BF:aR ["thing"] jK (aH uQ):=bh
abbrev Bg:Stmt:=top 18
abbrev m_:List Str:=["mobile","weights"]
theorem Lu:aR ["mobile","weights","numbers","way","name"] m_ (aH Bg):=bh
abbrev Bl:Stmt:=top 19
abbrev nc:List Str:=["mobile","way"]
theorem Lw:aR ["mobile","way"] nc (aH Bl):=bh
abbrev Bm:Stmt:=top 20
abbrev ng:List Str:=["mobile","numbers"]
theorem Ly:aR ["mobile","numbers"] ng (aH Bm):=bh
abbrev Bq:Stmt:=top 21
abbrev qq:List Str:=["rod","numbers"]
theorem LA:aR ["rod","numbers"] qq (aH Bq):=bh
abbrev Bu:Stmt:=top 22
abbrev qv:List Str:=["mobile","way","numbers"]
theorem BR:aR ["mobile","way","numbers","both","told"] qv (aH Bu):=bh
abbrev s_load:Stmt:=top 23
abbrev qm:List Str:=["mobile","weights"]
theorem Lx:aR ["mobile","weights"] qm (aH s_load):=bh
abbrev Bt:Stmt:=top 24
abbrev qu:List Str:=["mobile","weights"]
theorem LD:aR ["mobile","weights"] qu (aH Bt):=bh
abbrev Bf:Stmt:=top 27
abbrev m8:List Str:=["thing"]
theorem Ls:aR ["thing"] m8 (aH Bf):=bh
abbrev By:Stmt:=top 28
abbrev nh:List Str:=["text","last"]
theorem LI:aR ["text","last"] nh (aH By):=bh
abbrev Be:Stmt:=top 29
abbrev qj:List Str:=["text","sign"]
theorem Lr:aR ["text","sign"] qj (aH Be):=bh
abbrev Bw:Stmt:=top 30
abbrev qx:List Str:=["text"]
theorem LG:aR ["text","end"] qx (aH Bw):=bh
abbrev Bo:Stmt:=top 31
abbrev qo:List Str:=["text","rods"]
theorem BQ:aR ["text","rods","left","right","one","other"] qo (aH Bo):=bh
abbrev Bp:Stmt:=top 32
abbrev qp:List Str:=["text"]
theorem Lz:aR ["text","parts"] qp (aH Bp):=bh
abbrev BB:Stmt:=top 33
abbrev qA:List Str:=["mobile"]
theorem BS:aR ["mobile","left","right","one","other"] qA (aH BB):=bh
abbrev BA:Stmt:=top 34
abbrev qz:List Str:=["mobile"]
theorem LJ:aR ["mobile"] qz (aH BA):=bh
abbrev Br:Stmt:=top 35
abbrev qs:List Str:=["text"]
theorem LB:aR ["text","told"] qs (aH Br):=bh
abbrev Bx:Stmt:=top 36
abbrev qy:List Str:=["weights"]
theorem LH:aR ["weights"] qy (aH Bx):=bh
abbrev Bs:Stmt:=top 37
abbrev qt:List Str:=["text"]
theorem LC:aR ["text","weights"] qt (aH Bs):=bh
abbrev Bv:Stmt:=top 39
abbrev qw:List Str:=["rod"]
theorem LF:aR ["rod"] qw (aH Bv):=bh
abbrev Bh:Stmt:=top 41
abbrev qk:List Str:=["mobile"]
theorem BP:aR ["mobile","rod"] qk (aH Bh):=bh
abbrev Bj:Stmt:=top 42
abbrev ql:List Str:=["mobile"]
theorem Lv:aR ["mobile"] ql (aH Bj):=bh
abbrev AS:Stmt:=top 44
abbrev p_:List Str:=["_law_script","_law_k"]
theorem Li:aR ["_law_script","_law_k"] p_ (aH AS):=bh
abbrev AX:Stmt:=top 45
abbrev qc:List Str:=["_law_script","_law_k","_law_many"]
theorem Ll:aR ["_law_script","_law_k","_law_many","_law_drawn"] qc (aH AX):=bh
abbrev AU:Stmt:=top 46
abbrev jc:List Str:=["_law_script","_law_town","_law_many"]
theorem Lj:aR ["_law_script","_law_town","_law_many"] jc (aH AU):=bh
abbrev A_:Stmt:=top 47
abbrev k_:List Str:=["_law_script","_law_town","_law_some_here"]
theorem Ln:aR ["_law_script","_law_town","_law_some_here"] k_ (aH A_):=bh
abbrev AY:Stmt:=top 48
abbrev qd:List Str:=["_law_script","_law_town","_law_names_here","_law_deep"]
theorem BD:aR ["_law_script","_law_town","_law_names_here","_law_deep","_law_most","_law_left","_law_right","_law_one"] qd (aH AY):=bh
abbrev AV:Stmt:=top 49
abbrev qa:List Str:=["_law_part","_law_row"]
theorem BC:aR ["_law_part","_law_row","_law_one"] qa (aH AV):=bh
abbrev Bb:Stmt:=top 50
abbrev qg:List Str:=["_law_script","_law_town","_law_deep"]
theorem Lp:aR ["_law_script","_law_town","_law_deep","_law_part"] qg (aH Bb):=bh
abbrev Ba:Stmt:=top 51
abbrev qf:List Str:=["_law_part","_law_way"]
theorem Lo:aR ["_law_part","_law_way"] qf (aH Ba):=bh
abbrev AW:Stmt:=top 52
abbrev qb:List Str:=["_law_part"]
theorem Lk:aR ["_law_part"] qb (aH AW):=bh
abbrev AZ:Stmt:=top 53
abbrev qe:List Str:=["_law_part"]
theorem Lm:aR ["_law_part"] qe (aH AZ):=bh
abbrev Bc:Stmt:=top 54
abbrev qh:List Str:=["_law_script","_law_town","_law_part"]
theorem BE:aR ["_law_script","_law_town","_law_part","_law_one","_law_other"] qh (aH Bc):=bh
abbrev Bd:Stmt:=top 56
abbrev qi:List Str:=["_law_script","_law_town","_law_names_here"]
theorem Lq:aR ["_law_script","_law_town","_law_names_here","_law_wide"] qi (aH Bd):=bh
abbrev iL:Stmt:=top 57
abbrev uB:List Str:=["_law_script"]
theorem BO:aR ["_law_script","_law_town","_law_mobile_here","_law_other","_law_text","_law_weights_here","_law_told","_law_low"] uB (aH iL):=bh
open MA
theorem F5(T:TopD K mg "is_number" uW iJ)(d:mg "isinstance"=none)(f:mg "bool"=none)(g:mg "int"=none):aj P w K mg base 1 "is_number" iJ (ak mg 3 r9):=by
 refine bC T BL λj k l m nd=>⟨_,(aD (aX (PW.pt (cF (bQ (eG zp d f boot_bool (vr 0))) (dw (bP (bQ (eG zq d g boot_int (vr 0))))))) (aA (aG dU)) aY)
  (aA (aG (o_ (vr 1) (vr 0) (vr 2))))),λds A R h n=>?_⟩
 obtain⟨v,⟨i,a,b,rfl,rfl⟩,q⟩:=h;refine cD (λc=>?_) (λc=>?_)
 .have e:(decide (a<=i)&&decide (i<=b))=decide (i<=b):=by simp[c]
  rw[e] at q;exact q _ Gr.refl
 .have e:(decide (a<=i)&&decide (i<=b))=false:=by simp[c]
  rw[e] at q;exact q _ Gr.refl
theorem jJ{c d:Nat}:([c]:List Nat)<[d]↔c<d:=by simp[List.cons_lt_cons_iff]
theorem qI:("a":Str).cps.toList=[97]:=by decide+kernel
theorem qJ:("z":Str).cps.toList=[122]:=by decide+kernel
theorem F4(T:TopD K mg "is_name" uU gM)(b:mg "isinstance"=none)(d:mg "str"=none)(g:mg "len"=none)(i:mg "all"=none){t:Tok}(a:mg "LONGEST_NAME"=some (.int 3 t)):aj P w K mg base 1 "is_name" gM (ak mg 1 rZ):=by
 refine bC T BJ λr s j u nd=>⟨_,(aD (aX (PW.pt (cF (bP (bQ (eG mP b d boot_str (vr 0)))) (dw (bP (vg ai (bO cY cH g c6 (aa (vr 0) af)) (eK a)))))) (aA (aG dU)) aY)
  (aA (aG (bO (mh rfl) mz i boot_all (aa (iy none (own:=["letter"]) (frees:=[]) (ix:=[]) rfl (sU (vr 0)) (λc=>(pG 0 (show(["letter"]:List Str).Nodup by decide+kernel))) (λc=>(o_ aN (vr 0) aN))) af))))),λds A R h y=>?_⟩
 obtain⟨v,⟨n,rfl,hn,rfl⟩,q⟩:=h;have k:n.length<=sizeLine:=cM hn.hi (by decide);have h1:=hn.lo;have h3:=hn.hi;refine⟨k,cD (λ_=>?_) (λc=>absurd (show(1:Int)<=(n.length:Nat) by omega) c)⟩;refine cN (λc=>absurd (show((n.length:Nat):Int)<=3 by omega) c) (λ_=>?_);refine iY (f:=λ_=>.bl true) trivial _ _ (λx j=>⟨[x],rfl,λQ l=>?_⟩) ?_ ?_
 .obtain⟨c,hc,rfl⟩:=b9.mp j
  obtain⟨z,B⟩:=hn.az c hc;have m:¬((⟨#[c]⟩:Str).cps.toList<("a":Str).cps.toList):=by
   rw[qI];intro h;have:=jJ.mp h;omega
  have o:¬(("z":Str).cps.toList<(⟨#[c]⟩:Str).cps.toList):=by
   rw[qJ];intro h;have:=jJ.mp h;omega
  refine cN (λ_=>?_) (λh=>absurd h m);have p:(!decide (("z":Str).cps.toList<(⟨#[c]⟩:Str).cps.toList))=true:=by rw[dg o];rfl
  show Q (.bl (!decide (("z":Str).cps.toList<(⟨#[c]⟩:Str).cps.toList))) A;rw[p];exact l
 .have:(cR n).length=n.length:=by simp[cR,Str.length]
  show 0+(cR n).length<=sizeLine;omega
 .refine l9 (bs:=(cR n).map λ_=>true) aT (ko _ _) ?_
  have e:((cR n).map λ_=>true).all id=true:=by simp
  rw[e];exact q _ Gr.push
theorem F2(T:TopD K mg "is_mobile_within" uT jM)(i:mg "isinstance"=none)(x:mg "str"=none)(u:mg "tuple"=none)(k:mg "len"=none){t:Tok}(g:mg "LONGEST_ARM"=some (.int 9 t))
  (o:aj P w K mg base 1 "is_name" gM (ak mg 1 rZ))(j:aj P w K mg base 1 "is_number" iJ (ak mg 3 r9)):∀d,aj P w K mg base (d+1) "is_mobile_within" jM (ak mg 2 (wA d)):=by
 intro d;induction d with
 |zero=>
  refine fQ T λds A R RE h=>?_;obtain⟨v,⟨m,_,_,h,_⟩,_⟩:=h;omega
 |succ d e=>
  refine eN T BI rfl (by decide) λN RE f G B outer s H E y U z ds A R h V=>?_;have p:=y.units;refine⟨_,(aD (aX (PW.pt (cF (bP (bQ (eG kit_tuple i u jk (vr 0)))) (cF (cJ p (bO cY cH k c6 (aa (vr 0) af)) ai) (dw (bP (bQ (eG mP i x boot_str (dX p (vr 0) ai)))))))) (aA (aG dU)) aY)
  (aD (aX (cJ p (dX p (vr 0) ai) aN) (aA (aG (jx (i_ p (bO cY cH k c6 (aa (vr 0) af)) ai) (jz (dL o y z (aa (dX p (vr 0) ai) af)))))) aY)
  (aD (aX (PW.pt (cF (fE p (dX p (vr 0) ai) aN) (cF (fE p (bO cY cH k c6 (aa (vr 0) af)) ai) (dw (cJ p (vr 1) ai))))) (aA (aG dU)) aY)
  (aD (aX (PW.pt (cF (bP (bQ (dL j y z (aa (dX p (vr 0) ai) (aa ai (aa (eK g) af)))))) (dw (bP (bQ (dL j y z (aa (dX p (vr 0) ai) (aa ai (aa (eK g) af))))))))) (aA (aG dU)) aY)
  (aA (aG (jx (dL e y z (aa (dX p (vr 0) ai) (aa (i7 (vr 1) ai) af))) (jz (dL e y z (aa (dX p (vr 0) ai) (aa (i7 (vr 1) ai) af))))))))))),?_⟩
  obtain⟨v,⟨m,rfl,C,hd,rfl⟩,q⟩:=h;cases m with
  |wt n=>
   exact⟨rfl,_,⟨n,rfl,C.nm n (by simp[aS.names]),rfl⟩,q⟩
  |ay l r a b=>
   obtain⟨⟨h1,h2,h3,I,J,L⟩,hn⟩:=C;have M:max a.deep b.deep+1<d+1:=hd;have F:((d+1:Nat):Int) - 1 - 1=(d:Int) - 1:=by omega
   have O:(decide (1<=l)&&decide (l<=9))=true:=by simp[h1,h2]
   have Q:(decide (1<=r)&&decide (r<=9))=true:=by simp[h3,I]
   refine cD (λc=>absurd c (by omega)) (λ_=>?_);refine⟨rfl,_,⟨l,1,9,rfl,rfl⟩,λW g1=>?_⟩;rw[O];refine⟨rfl,_,⟨r,1,9,rfl,rfl⟩,λX g2=>?_⟩;rw[Q];refine⟨rfl,_,⟨a,show [enc a,D.int (((d+1:Nat):Int) - 1 - 1)]=_ by rw[F],⟨J,λn h=>hn n (by simp[aS.names,h])⟩,by omega,rfl⟩,λY g3=>?_⟩;refine⟨rfl,_,⟨b,show [enc b,D.int (((d+1:Nat):Int) - 1 - 1)]=_ by rw[F],⟨L,λn h=>hn n (by simp[aS.names,h])⟩,by omega,rfl⟩,λZ S=>?_⟩;exact q _ (((g1.trans g2).trans g3).trans S)
theorem F3(T:TopD K mg "is_mobile" uS jL){t:Tok}(b:mg "MOST_RODS"=some (.int 5 t))(a:aj P w K mg base 7 "is_mobile_within" jM (ak mg 2 (wA 6))):aj P w K mg base 8 "is_mobile" jL (ak mg 1 wu):=by
 refine bC T BH λc f d g nd=>⟨_,(aA (aG (dL a c d (aa (vr 0) (aa (eK b) af))))),λds A R h i=>?_⟩;obtain⟨v,⟨m,rfl,e,hd,rfl⟩,q⟩:=h;exact⟨rfl,_,⟨m,rfl,e,by omega,rfl⟩,q⟩
theorem FW(T:TopD K mg "check_mobile" uR iI){a:Addr}(c:mg "NoMobile"=some (.ref a))(d:excIn K a jO "ValueError.__new__"=true)(b:aj P w K mg base 8 "is_mobile" jL (ak mg 1 wu)):aj P w K mg base 9 "check_mobile" iI (ak mg 1 oz):=by
 refine bC T BG λe f g j nd=>⟨_,(aA (aX (bP (bQ (dL b e g (aa (vr 0) af)))) (aA (mH f rfl c d (aa aN af))) aY)),λds A R h k=>?_⟩;obtain⟨v,⟨m,rfl,i,hd,rfl⟩,q⟩:=h;exact⟨rfl,_,⟨m,rfl,i,hd,rfl⟩,λl g1=>q _ g1⟩
end My
namespace DP
open L2 MA
mutual
def br(A:Ar):D->Bool
 |.tup xs=>eT A xs
 |.exc _=>false
 |.str z=>decide (z.length<=sizeLine)
 |.ref r=>match A[r]? with
  |some (.lst _)=>true
  |some (.dct _)=>true
  |_=>false
 |_=>true
def eT(A:Ar):List D->Bool
 |[]=>true
 |x::xs=>br A x&&eT A xs
end
def dW(x:D)(a b:Int):Bool:=match x with
 |.int i=>decide (a<=i)&&decide (i<=b)
 |_=>false
def ki:D->Bool
 |.str z=> !decide (z.cps.toList<("a":Str).cps.toList)&& !decide (("z":Str).cps.toList<z.cps.toList)
 |_=>false
def c_:D->Bool
 |.str n=>decide ((1:Int)<=(n.length:Nat))&&decide (((n.length:Nat):Int)<=3)&&(cR n).all ki
 |_=>false
def b6:Nat->D->Bool
 |_,.tup [.str k,n]=>decide (k="weight")&&c_ n
 |d+1,.tup [.str k,l,r,a,b]=>decide (k="rod")&&dW l 1 9&&dW r 1 9&&b6 d a&&b6 d b
 |_,_=>false
def r_:Ct:=λds A R _=>∃x a b,ds=[x,.int a,.int b]/\br A x=true/\∀A',Gr A A'->R (.bl (dW x a b)) A'
def oA:Ct:=λds A R _=>∃x,ds=[x]/\br A x=true/\∀A',Gr A A'->R (.bl (c_ x)) A'
def wz(d:Nat):Ct:=λds A R _=>∃x,ds=[x,.int ((d:Int) - 1)]/\0<d/\br A x=true/\∀A',Gr A A'->R (.bl (b6 (d - 1) x)) A'
def wJ:Ct:=λds A R _=>∃x,ds=[x]/\br A x=true/\∀A',Gr A A'->R (.bl (b6 5 x)) A'
def wm:Ct:=λds A R E=>∃x,ds=[x]/\br A x=true/\∀A',Gr A A'->if b6 5 x=true then R .aM A' else E "NoMobile" A'
mutual
theorem k8{A A':Ar}(g:Gr A A'):∀x,br A x=true->br A' x=true
 |.tup xs,h=>by
  have h:eT A xs=true:=h;exact zW g xs h
 |.aM,h=>rfl
 |.bl _,h=>rfl
 |.int _,h=>rfl
 |.str _,h=>h
 |.fl _,h=>rfl
 |.exc _,h=>by cases h
 |.ref r,h=>by
  unfold br at h ⊢;cases e:A[r]? with
  |none=>rw[e] at h;cases h
  |some c=>rw[e] at h;rw[g.get e];exact h
theorem zW{A A':Ar}(g:Gr A A'):∀xs,eT A xs=true->eT A' xs=true
 |[],h=>rfl
 |x::xs,h=>by
  have h:(br A x&&eT A xs)=true:=h;rw[bZ] at h;show(br A' x&&eT A' xs)=true;rw[bZ];exact⟨k8 g x h.1,zW g xs h.2⟩
end
theorem sq{α:Type}(y:α)(ys:List α):bU (y::ys) 0=some y:=xw (j:=0) rfl
theorem tR{d:Nat}{k:Str}{ys:List D}(h1:∀n,ys=[n]->¬k="weight")(h2:∀l r a b,ys=[l,r,a,b]->¬k="rod"):b6 d (.tup (.str k::ys))=false:=by
 match ys with
 |[]=>cases d<;>rfl
 |[n]=>
  have e:b6 d (.tup [.str k,n])=(decide (k="weight")&&c_ n):=by cases d<;>rfl
  rw[e,dg (h1 n rfl)];rfl
 |[_,_]=>cases d<;>rfl
 |[_,_,_]=>cases d<;>rfl
 |[l,r,a,b]=>
  cases d with
  |zero=>rfl
  |succ d=>
   show(decide (k="rod")&&dW l 1 9&&dW r 1 9&&b6 d a&&b6 d b)=false;rw[dg (h2 l r a b rfl)];rfl
 |_::_::_::_::_::_=>cases d<;>rfl
theorem Hj{d:Nat}{k:Str}{ys:List D}(h1:¬k="weight")(h2:¬k="rod"):b6 d (.tup (.str k::ys))=false:=tR (λ_ _=>h1) λ_ _ _ _ _=>h2
theorem k9{A:Ar}{r:Nat}(h:br A (.ref r)=true):gQ A (.ref r)=some "list"\/gQ A (.ref r)=some "dict":=by
 unfold br at h;cases e:A[r]? with
 |none=>rw[e] at h;cases h
 |some c=>
  rw[e] at h;cases c with
  |lst xs=>exact .inl (by unfold gQ;simp only[e])
  |dct kvs=>exact .inr (by unfold gQ;simp only[e])
  |iB o kvs=>cases h
  |ins cl fs=>cases h
theorem tS{n:Str}(h:Nm n):c_ (.str n)=true:=by
 have h1:=h.lo;have h3:=h.hi;unfold c_;rw[bZ,bZ,gZ,gZ];refine⟨⟨by omega,by omega⟩,ji.mpr λx a=>?_⟩;obtain⟨c,hc,rfl⟩:=b9.mp a;obtain⟨e,f⟩:=h.az c hc;have b:¬((⟨#[c]⟩:Str).cps.toList<("a":Str).cps.toList):=by
  rw[My.qI];intro h;have:=My.jJ.mp h;omega
 have d:¬(("z":Str).cps.toList<(⟨#[c]⟩:Str).cps.toList):=by
  rw[My.qJ];intro h;have:=My.jJ.mp h;omega
 show(!decide ((⟨#[c]⟩:Str).cps.toList<("a":Str).cps.toList)&& !decide (("z":Str).cps.toList<(⟨#[c]⟩:Str).cps.toList))=true;rw[dg b,dg d];rfl
theorem zV{A:Ar}{n:Str}(h:Nm n):br A (.str n)=true:=dN (cM h.hi (by decide))
theorem jI{A:Ar}:∀{m:M},(∀n∈m.names,Nm n)->br A (enc m)=true
 |.wt n,h=>by
  have hn:=zV (A:=A) (h n (by simp[aS.names]));have e:br A (.str "weight")=true:=show decide (("weight":Str).length<=sizeLine)=true by decide+kernel
  show(br A (.str "weight")&&(br A (.str n)&&true))=true;rw[hn,e];rfl
 |.ay l r a b,h=>by
  have c:=jI (A:=A) (m:=a) λn hn=>h n (by simp[aS.names,hn]);have d:=jI (A:=A) (m:=b) λn hn=>h n (by simp[aS.names,hn]);have e:br A (.str "rod")=true:=show decide (("rod":Str).length<=sizeLine)=true by decide+kernel
  show(br A (.str "rod")&&(true&&(true&&(br A (enc a)&&(br A (enc b)&&true)))))=true;rw[c,d,e];rfl
theorem tQ:∀{m:M} {d:Nat},Wf m->m.deep<=d->b6 d (enc m)=true
 |.wt n,d,c,_=>by
  have e:=tS (c.nm n (by simp[aS.names]));cases d<;>(show(decide (("weight":Str)="weight")&&c_ (.str n))=true;rw[e];decide+kernel)
 |.ay l r a b,d,c,hd=>by
  have hd:max a.deep b.deep+1<=d:=hd;cases d with
  |zero=>omega
  |succ d=>
   obtain⟨h1,h2,h3,f,g,h⟩:=c.arms;show(decide (("rod":Str)="rod")&&dW (.int l) 1 9&&dW (.int r) 1 9&&b6 d (enc a)&&b6 d (enc b))=true;rw[tQ c.left (by omega),tQ c.right (by omega)];simp[dW,h1,h2,h3,f]
end DP
namespace My
open L2 DP MA
theorem FP(T:TopD K mg "is_number" uW iJ)(d:mg "isinstance"=none)(f:mg "bool"=none)(g:mg "int"=none):aj P w K mg base 1 "is_number" iJ (ak mg 3 r_):=by
 refine bC T BL λj k l m nd=>⟨_,(aD (aX (PW.pt (cF (bQ (eG zp d f boot_bool (vr 0))) (dw (bP (bQ (eG zq d g boot_int (vr 0))))))) (aA (aG dU)) aY)
  (aA (aG (o_ (vr 1) (vr 0) (vr 2))))),λds A R h n=>?_⟩
 obtain⟨x,a,b,rfl,hk,q⟩:=h;cases x with
 |int i=>
  have q:∀A',Gr A A'->R (.bl (decide (a<=i)&&decide (i<=b))) A':=q;refine cD (λc=>?_) (λc=>?_)
  .have e:(decide (a<=i)&&decide (i<=b))=decide (i<=b):=by simp[c]
   rw[e] at q;exact q _ Gr.refl
  .have e:(decide (a<=i)&&decide (i<=b))=false:=by simp[c]
   rw[e] at q;exact q _ Gr.refl
 |exc c=>cases hk
 |ref r=>
  rcases k9 hk with e|e;all_goals
   conv=>whnf
   rw[e];conv=>whnf
   rw[e];exact q _ Gr.refl
 |_=>exact q _ Gr.refl
theorem FN(T:TopD K mg "is_name" uU gM)(b:mg "isinstance"=none)(d:mg "str"=none)(g:mg "len"=none)(i:mg "all"=none){t:Tok}(a:mg "LONGEST_NAME"=some (.int 3 t)):aj P w K mg base 1 "is_name" gM (ak mg 1 oA):=by
 refine bC T BJ λs u o v nd=>⟨_,(aD (aX (PW.pt (cF (bP (bQ (eG mP b d boot_str (vr 0)))) (dw (bP (vg ai (bO cY cH g c6 (aa (vr 0) af)) (eK a)))))) (aA (aG dU)) aY)
  (aA (aG (bO (mh rfl) mz i boot_all (aa (iy none (own:=["letter"]) (frees:=[]) (ix:=[]) rfl (sU (vr 0)) (λc=>(pG 0 (show(["letter"]:List Str).Nodup by decide+kernel))) (λc=>(o_ aN (vr 0) aN))) af))))),λds A R h y=>?_⟩
 obtain⟨x,rfl,hk,q⟩:=h;cases x with
 |str n=>
  have p:n.length<=sizeLine:=nQ hk;have q:∀A',Gr A A'->R (.bl (decide ((1:Int)<=(n.length:Nat))&&decide (((n.length:Nat):Int)<=3)&&(cR n).all ki)) A':=q;refine⟨p,cD (λk=>?_) (λk=>?_)⟩
  .refine cN (λl=>?_) (λl=>?_)
   .rw[dg l] at q
    simp only[Bool.and_false,Bool.false_and] at q;exact q _ Gr.refl
   rw[dN k,dN l] at q;simp only[Bool.true_and] at q;refine iY (f:=λx=>.bl (ki x)) trivial _ _ (λx o=>⟨[x],rfl,λQ j=>?_⟩) ?_ ?_
   .obtain⟨c,hc,rfl⟩:=b9.mp o
    have j:Q (.bl (!decide ((⟨#[c]⟩:Str).cps.toList<("a":Str).cps.toList)&& !decide (("z":Str).cps.toList<(⟨#[c]⟩:Str).cps.toList))) A:=j;refine cN (λm=>?_) (λm=>?_)
    .rw[dg m] at j
     exact j
    .rw[dN m] at j
     exact j
   .have:(cR n).length=n.length:=by simp[cR,Str.length]
    show 0+(cR n).length<=sizeLine;omega
   .refine l9 (bs:=(cR n).map ki) aT (ko _ _) ?_
    have e:((cR n).map ki).all id=(cR n).all ki:=by simp
    rw[e];exact q _ Gr.push
  .rw[dg k] at q
   simp only[Bool.false_and] at q;exact q _ Gr.refl
 |exc c=>cases hk
 |ref r=>
  rcases k9 hk with e|e;all_goals
   conv=>whnf
   rw[e];exact q _ Gr.refl
 |_=>exact q _ Gr.refl
theorem FI (T : TopD K mg "is_mobile_within" uT jM) (j : mg "isinstance" = none) (C : mg "str" = none) (z : mg "tuple" = none) (p : mg "len" = none) {t : Tok} (i : mg "LONGEST_ARM" = some (.int 9 t))
    (u:aj P w K mg base 1 "is_name" gM (ak mg 1 oA))(m:aj P w K mg base 1 "is_number" iJ (ak mg 3 r_)):∀d,aj P w K mg base (d+1) "is_mobile_within" jM (ak mg 2 (wz d)):=by
  intro d
  induction d with
  | zero =>
    refine fQ T λds A R RE h=> ?_
    obtain⟨x,_,h,_⟩:=h
    omega
  | succ d g =>
    refine eN T BI rfl (by decide) λN RE f X B outer s H E I hR J ds A R h hl=> ?_
    have v:=I.units
    refine⟨_,(aD (aX (PW.pt (cF (bP (bQ (eG kit_tuple j z jk (vr 0)))) (cF (cJ v (bO cY cH p c6 (aa (vr 0) af)) ai) (dw (bP (bQ (eG mP j C boot_str (dX v (vr 0) ai)))))))) (aA (aG dU)) aY)
    (aD (aX (cJ v (dX v (vr 0) ai) aN) (aA (aG (jx (i_ v (bO cY cH p c6 (aa (vr 0) af)) ai) (jz (dL u I J (aa (dX v (vr 0) ai) af)))))) aY)
    (aD (aX (PW.pt (cF (fE v (dX v (vr 0) ai) aN) (cF (fE v (bO cY cH p c6 (aa (vr 0) af)) ai) (dw (cJ v (vr 1) ai))))) (aA (aG dU)) aY)
    (aD (aX (PW.pt (cF (bP (bQ (dL m I J (aa (dX v (vr 0) ai) (aa ai (aa (eK i) af)))))) (dw (bP (bQ (dL m I J (aa (dX v (vr 0) ai) (aa ai (aa (eK i) af))))))))) (aA (aG dU)) aY)
    (aA (aG (jx (dL g I J (aa (dX v (vr 0) ai) (aa (i7 (vr 1) ai) af))) (jz (dL g I J (aa (dX v (vr 0) ai) (aa (i7 (vr 1) ai) af))))))))))),?_⟩
    obtain⟨x,rfl,_,hk,q⟩:=h
    have q:∀A',Gr A A'->R (.bl (b6 d x)) A':=q
    have no : b6 d x = false → R (.bl false) A := fun e => by
      have:=q A Gr.refl
      rwa [e] at this
    cases x with
    | tup xs =>
      cases xs with
      |nil=>exact no (by cases d<;>rfl)
      | cons y ys =>
        have hk:(br A y&&eT A ys)=true:=hk
        rw[bZ] at hk
        have ln:(((y::ys).length:Nat):Int)=(ys.length:Int)+1:=by simp
        conv=>whnf
        rw[sq]
        cases y with
        | str k =>
          conv=>whnf
          rw[sq]
          refine cD (λL=> ?_) (λL=> ?_)
          · refine cD (fun o => ?_) (fun o => ?_)
            · have o : (((D.str k :: ys).length : Nat) : Int) = 2 := o
              obtain ⟨n, rfl⟩ : ∃ n, ys = [n] := by
                match ys,ln,o with
                |[],ln,o=>simp at o
                |[n],_,_=>exact⟨n,rfl⟩
                |_::_::_,ln,o=>simp at o;omega
              refine⟨rfl,n,rfl,?_,λY g1=> ?_⟩
              · have := hk.2
                simp only[eT,Bool.and_true] at this
                exact this
              · have e : b6 d (.tup [.str k, n]) = c_ n := by
                  have:b6 d (.tup [.str k,n])=(decide (k="weight")&&c_ n):=by cases d<;>rfl
                  rw[this,dN L,Bool.true_and]
                rw[<-e]
                exact q _ g1
            · refine no (tR (fun n e => ?_) fun l r a b e => ?_)
              · exact absurd (by rw[e];rfl) o
              · rw[L];decide+kernel
          · conv => whnf
            rw[sq]
            refine cN (λQ=> ?_) (λQ=> ?_)
            · exact no (Hj L Q)
            · refine cN (fun o => ?_) (fun o => ?_)
              · refine no (tR (fun n e => ?_) fun l r a b e => ?_)
                · exact L
                · exact absurd (by rw[e];rfl) o
              · have o : (((D.str k :: ys).length : Nat) : Int) = 5 := o
                obtain ⟨l, r, a, b, rfl⟩ : ∃ l r a b, ys = [l, r, a, b] := by
                  match ys,o with
                  |[l,r,a,b],_=>exact⟨l,r,a,b,rfl⟩
                  |[],o=>simp at o
                  |[_],o=>simp at o
                  |[_,_],o=>simp at o
                  |[_,_,_],o=>simp at o
                  |_::_::_::_::_::_,o=>simp at o;omega
                have M:(br A l&&(br A r&&(br A a&&(br A b&&true))))=true:=hk.2
                simp only[bZ,and_true] at M
                obtain⟨k1,k2,k3,Z⟩:=M
                refine cD (λO=> ?_) (λO=> ?_)
                · have : d = 0 := by have O : ((d + 1 : Nat) : Int) - 1 = 0 := O
                                     omega
                  subst this
                  exact no rfl
                · cases d with
                  |zero=>exact absurd rfl O
                  | succ d =>
                    have S:((d+1+1:Nat):Int) - 1 - 1=((d+1:Nat):Int) - 1:=by omega
                    have eM : b6 (d + 1) (.tup [.str k, l, r, a, b]) = (dW l 1 9 && dW r 1 9 && b6 d a && b6 d b) := by
                      show(decide (k="rod")&&dW l 1 9&&dW r 1 9&&b6 d a&&b6 d b)=_
                      rw[dN Q,Bool.true_and]
                    rw[eM] at q
                    refine⟨rfl,l,1,9,rfl,k1,λY g1=> ?_⟩
                    cases U:dW l 1 9 with
                    | false =>
                      rw[U] at q
                      exact q _ g1
                    | true =>
                      refine⟨rfl,r,1,9,rfl,k8 g1 _ k2,λA2 g2=> ?_⟩
                      rw[U] at q
                      have F:=g1.trans g2
                      cases V:dW r 1 9 with
                      | false =>
                        rw[V] at q
                        exact q _ F
                      | true =>
                        rw[V] at q
                        refine⟨rfl,a,show [a,D.int (((d+1+1:Nat):Int) - 1 - 1)]=_ by rw[S],by omega,k8 F _ k3,λA3 g3=> ?_⟩
                        have G:=F.trans g3
                        show cond (b6 d a) _ _
                        cases W:b6 d a with
                        | false =>
                          rw[W] at q
                          exact q _ G
                        | true =>
                          rw[W] at q
                          refine⟨rfl,b,show [b,D.int (((d+1+1:Nat):Int) - 1 - 1)]=_ by rw[S],by omega,k8 G _ Z,λA4 g4=> ?_⟩
                          exact q _ (G.trans g4)
        |exc c=>exact absurd hk.1 (by simp[br])
        | ref r =>
          rcases k9 hk.1 with e|e
          all_goals
            conv=>whnf
            rw[e]
            exact no (by cases d<;>rfl)
        |_=>exact no (by cases d<;>rfl)
    |exc c=>cases hk
    | ref r =>
      rcases k9 hk with e|e
      all_goals
        conv=>whnf
        rw[e]
        exact no (by cases d<;>rfl)
    |_=>exact no (by cases d<;>rfl)
theorem FL(T:TopD K mg "is_mobile" uS jL){t:Tok}(b:mg "MOST_RODS"=some (.int 5 t))(a:aj P w K mg base 7 "is_mobile_within" jM (ak mg 2 (wz 6))):aj P w K mg base 8 "is_mobile" jL (ak mg 1 wJ):=by
 refine bC T BH λc e d f nd=>⟨_,(aA (aG (dL a c d (aa (vr 0) (aa (eK b) af))))),λds A R h g=>?_⟩;obtain⟨x,rfl,hk,q⟩:=h;exact⟨rfl,x,rfl,by decide,hk,q⟩
theorem FH(T:TopD K mg "check_mobile" uR iI){a:Addr}(c:mg "NoMobile"=some (.ref a))(d:excIn K a jO "ValueError.__new__"=true)(b:aj P w K mg base 8 "is_mobile" jL (ak mg 1 wJ)):aj P w K mg base 9 "check_mobile" iI (ak mg 1 wm):=by
 refine bC T BG λf g i k nd=>⟨_,(aA (aX (bP (bQ (dL b f i (aa (vr 0) af)))) (aA (mH g rfl c d (aa aN af))) aY)),λds A R h l=>?_⟩;obtain⟨x,rfl,hk,q⟩:=h;refine⟨rfl,x,rfl,hk,λj g1=>?_⟩;have q:=q j g1;cases e:b6 5 x with
 |true=>rw[e] at q;exact q
 |false=>rw[e] at q;exact⟨by decide,q⟩
end My
namespace DP
open L2 MA
def bg(i:Int):Str:=Str.ofString (toString i)
def txt:M->Str
 |.wt n=>n
 |.ay l r a b=>(((((((("(":Str)++bg l)++":")++bg r)++" ")++txt a)++" ")++txt b)++")"
theorem kR{l:Int}(h1:1<=l)(a:l<=9):bg l=⟨#[48+l.toNat]⟩:=by
 have:l=1\/l=2\/l=3\/l=4\/l=5\/l=6\/l=7\/l=8\/l=9:=by omega
 rcases this with rfl|rfl|rfl|rfl|rfl|rfl|rfl|rfl|rfl<;>decide+kernel
theorem D3(a b:Str):(a++b).cps.toList=a.cps.toList++b.cps.toList:=ek
theorem len_app(a b:Str):(a++b).length=a.length+b.length:=lI
theorem fW{l r:Int}{a b:M}(c:1<=l)(d:l<=9)(e:1<=r)(f:r<=9):(txt (.ay l r a b)).cps.toList=40::(48+l.toNat)::58::(48+r.toNat)::32::((txt a).cps.toList++32::((txt b).cps.toList++[41])):=by
 show((((((((("(":Str)++bg l)++":")++bg r)++" ")++txt a)++" ")++txt b)++")").cps.toList=_;rw[kR c d,kR e f];simp only[D3];rw[show("(":Str).cps.toList=[40] by decide+kernel,show(":":Str).cps.toList=[58] by decide+kernel,show(" ":Str).cps.toList=[32] by decide+kernel,show(")":Str).cps.toList=[41] by decide+kernel];simp
theorem vt:∀{m:M},Wf m->(txt m).length+7<=10*2 ^ m.deep
 |.wt n,h=>by
  have:=(h.nm n (by simp[aS.names])).hi;show n.length+7<=10*2 ^ 0;omega
 |.ay l r a b,h=>by
  obtain⟨c,d,f,g,i,j⟩:=h.arms;have k:=vt h.left;have o:=vt h.right;have e:=cz List.length (fW (a:=a) (b:=b) c d f g);have p:(txt a).length=(txt a).cps.toList.length:=by simp[Str.length]
  have q:(txt b).length=(txt b).cps.toList.length:=by simp[Str.length]
  have em:(txt (.ay l r a b)).length=(txt (.ay l r a b)).cps.toList.length:=by simp[Str.length]
  simp only[dZ,b_,length_nil] at e;have s:2 ^ a.deep<=2 ^ max a.deep b.deep:=dc (by decide) (by omega);have p2:2 ^ b.deep<=2 ^ max a.deep b.deep:=dc (by decide) (by omega);show(txt (.ay l r a b)).length+7<=10*2 ^ (max a.deep b.deep+1);rw[jS];omega
def S(cs:List Nat):Str:=⟨cs.toArray⟩
theorem fq(cs:List Nat):(S cs).cps.toList=cs:=by simp[S]
theorem iw(x:Str):S x.cps.toList=x:=by
 obtain⟨c⟩:=x;simp[S]
theorem d8(cs:List Nat):(S cs).length=cs.length:=by simp[S,Str.length]
theorem s_{x:Str}{cs:List Nat}(h:x.cps.toList=cs):x=S cs:=by rw[<-h,iw]
theorem LS(l:Option Int)(len:Nat){j:Int}(h:(len:Int)<=j):Builtin.Str.strSliceIndices l (some j) 1 len=Builtin.Str.strSliceIndices l (some (len:Int)) 1 len:=by
 have a:¬((len:Int)<0):=by omega
 have b:¬(j<0):=by omega
 have c:min j (len:Int)=(len:Int):=by omega
 simp[Builtin.Str.strSliceIndices,a,b,c]
theorem u6(cs:List Nat){i j:Nat}(h:i<=j)(hi:i<=cs.length):Txt.slice (S cs) (some (i:Int)) (some (j:Int))=S ((cs.drop i).take (j - i)):=by
 by_cases d:j<=cs.length
 .have:=slice_closes (x:=S cs) (i:=(i:Int)) (j:=(j:Int)) ⟨by omega,by omega,by rw[fq];omega⟩
  have e:=g_ this;rw[e,fq];have a:((i:Nat):Int).toNat=i:=by omega
  have b:((j:Int) - (i:Int)).toNat=j - i:=by omega
  rw[a,b];rfl
 .have c:Txt.slice (S cs) (some (i:Int)) (some (j:Int))=Txt.slice (S cs) (some (i:Int)) (some (((S cs).length:Nat):Int)):=by
   unfold Txt.slice;rw[LS _ _ (show((S cs).length:Int)<=j by rw[d8];omega)]
  have:=slice_closes (x:=S cs) (i:=(i:Int)) (j:=(((S cs).length:Nat):Int)) ⟨by omega,by rw[d8];omega,by rw[fq,d8];omega⟩;have e:=g_ this;rw[c,e,fq,d8];have a:((i:Nat):Int).toNat=i:=by omega
  have b:((cs.length:Int) - (i:Int)).toNat=cs.length - i:=by omega
  rw[a,b,fG (by rw[f5];omega),fG (by rw[f5];omega)];rfl
theorem u5(cs:List Nat){i:Nat}(hi:i<=cs.length):Txt.slice (S cs) (some (i:Int)) none=S (cs.drop i):=by
 have:=slice_closes_from (x:=S cs) (i:=(i:Int)) ⟨by omega,by rw[fq];omega⟩;have e:=g_ this;rw[e,fq];have a:((i:Nat):Int).toNat=i:=by omega
 have b:((cs.length:Int) - (i:Int)).toNat=cs.length - i:=by omega
 rw[a,b,fG (by rw[f5];omega)];rfl
theorem LW(cs:List Nat){j:Nat}(b:j<=cs.length):Txt.slice (S cs) none (some (j:Int))=S (cs.take j):=by
 have:=slice_closes_to (x:=S cs) (j:=(j:Int)) ⟨by omega,by rw[fq];omega⟩;have e:=g_ this;rw[e,fq];have a:((j:Int) - 0).toNat=j:=by omega
 rw[a];rfl
theorem u9(c d:Nat)(cs:List Nat):Txt.startswith (S (d::cs)) (S [c])=decide (d=c):=by
 unfold Txt.startswith Builtin.Str.subAt;have a:(S (d::cs)).cps.extract 0 (0+(S [c]).length)= #[d]:=by
  show(d::cs).toArray.extract 0 (0+1)= #[d];simp
 rw[a];have b:decide (0+(S [c]).length<=(S (d::cs)).length)=true:=by
  rw[d8,d8];simp
 rw[b];show(true&&(#[d]== #[c]))=decide (d=c);by_cases h:d=c
 .simp[h]
 .simp[h]
def wg:Ct:=λds A R _=>∃c cs,ds=[.str (S (c::cs)),.str (S [c])]/\cs.length<=1000/\R (.str (S cs)) A
def sd:Ct:=λds A R _=>∃n last,ds=[.str (bg n),.int last]/\1<=n/\n<=12/\n<=last/\(last=9\/last=999999)/\∀A',Gr A A'->R (.int n) A'
def let1(cs:List Nat):Bool:=match cs with
 |c::_=>decide (97<=c)&&decide (c<=122)
 |[]=>false
def wI(d:Nat):Ct:=λds A R _=>∃m rest,ds=[.str (S ((txt m).cps.toList++rest)),.int ((d:Int) - 1)]/\0<d/\Wf m/\m.deep<d/\let1 rest=false/\(txt m).length+rest.length<=1000/\∀A',Gr A A'->R (.tup [enc m,.str (S rest)]) A'
def w_:Ct:=λds A R _=>∃n rest,ds=[.str (S (n.cps.toList++rest))]/\Nm n/\let1 rest=false/\rest.length<=1000/\∀A',Gr A A'->R (.tup [enc (.wt n),.str (S rest)]) A'
theorem IX{n:Str}(h:c_ (.str n)=true):Nm n:=by
 unfold c_ at h;rw[bZ,bZ,gZ,gZ] at h;obtain⟨⟨h1,h2⟩,h3⟩:=h;refine⟨by omega,by omega,λc hc=>?_⟩;have a:=ji.mp h3 (.str ⟨#[c]⟩) (lF hc);have a:(!decide ((⟨#[c]⟩:Str).cps.toList<("a":Str).cps.toList)&& !decide (("z":Str).cps.toList<(⟨#[c]⟩:Str).cps.toList))=true:=a;rw[bZ,nP,nP,lO,lO,My.qI,My.qJ] at a;have b:¬c<97:=λz=>a.1 (My.jJ.mpr z);have d:¬122<c:=λz=>a.2 (My.jJ.mpr z);omega
theorem Hq{c:Nat}(h:97<=c/\c<=122):c_ (.str (S [c]))=true:=tS ⟨by rw[d8];exact aI 1,by rw[d8];exact(show 1<=3 by decide),λd hd=>by rw[fq] at hd;rw[bV.mp hd];exact h⟩
theorem Ho{cs:List Nat}(h:let1 cs=false):c_ (.str (S (cs.take 1)))=false:=by
 cases e:c_ (.str (S (cs.take 1))) with
 |false=>rfl
 |true=>
  have hn:=IX e;cases cs with
  |nil=>
   have:=hn.lo;rw[d8] at this;simp at this
  |cons c cs=>
   have:=hn.az c (by rw[fq];simp);have h:(decide (97<=c)&&decide (c<=122))=false:=h;simp[this.1,this.2] at h
theorem tU{n:Int}(h1:1<=n)(h2:n<=12):1<=(bg n).length/\(bg n).length<=2/\(n<=9->(bg n).length=1)/\(∃c cs,(bg n).cps.toList=c::cs/\c≠48)/\∀c∈(bg n).cps.toList,Txt.contains "0123456789" (S [c])=true:=by
 have:n=1\/n=2\/n=3\/n=4\/n=5\/n=6\/n=7\/n=8\/n=9\/n=10\/n=11\/n=12:=by omega
 rcases this with rfl|rfl|rfl|rfl|rfl|rfl|rfl|rfl|rfl|rfl|rfl|rfl;all_goals exact⟨by decide+kernel,by decide+kernel,by decide+kernel,⟨_,_,rfl,by decide+kernel⟩,by decide+kernel⟩
end DP
namespace My
open L2 DP MA
theorem FQ(T:TopD K mg "behind" Be qj)(a:mg "len"=none):aj P w K mg base 1 "behind" qj (ak mg 2 wg):=by
 refine bC T Lr λf g i j nd=>⟨_,(aD (aX (bP (bQ (i6 jf PySem.F.slot_str_startswith PySem.F.type_str_startswith zM xZ (vr 0) (aa (vr 1) af)))) (aA jB) aY)
  (aA (aG (jA (vr 0) (gi (bO cY cH a c6 (aa (vr 1) af))) mF)))),λds A R h b=>?_⟩
 obtain⟨c,cs,rfl,b,q⟩:=h;have k:(2000:Nat)<=sizeLine:=by decide
 have d:=u9 c c cs;show cond (!Txt.startswith (S (c::cs)) (S [c])) _ _;rw[d,dN rfl];refine⟨by rw[d8];show 1<=_;omega,by rw[d8];simp;omega,?_⟩;have e:Txt.slice (S (c::cs)) (some (((S [c]).length:Nat):Int)) none=S cs:=by
  rw[d8,u5 _ (by simp)];rfl
 show R (.str (Txt.slice (S (c::cs)) (some (((S [c]).length:Nat):Int)) none)) A;rw[e];exact q
theorem GA(T:TopD K mg "whole_number" By nh)(b:mg "len"=none)(i:mg "str"=none)(k:mg "int"=none)(l:mg "all"=none){t:Tok}(a:mg "FIGURES"=some (.str "0123456789" t)):aj P w K mg base 1 "whole_number" nh (ak mg 2 sd):=by
 refine bC T LI λE F r s nd=>⟨_,(aD (aX (PW.pt (cF (bP (vg ai (bO cY cH b c6 (aa (vr 0) af)) (bO cY cH b c6 (aa (jy DL EM i boot_str (aa (vr 1) af)) af)))) (cF (cJ s (dX s (vr 0) ai) aN) (dw (bP (bQ (bO (mh rfl) mz l boot_all (aa (iy none (own:=["sign"]) (frees:=[]) (ix:=[]) rfl (sU (vr 0)) (λc=>(pG 0 (show(["sign"]:List Str).Nodup by decide+kernel))) (λc=>(Ff (vr 0) (ET a)))) af)))))))) (aA jB) aY)
  (aA (aG (jy DC EC k boot_int (aa (vr 0) af))))),λds A R h G=>?_⟩
 obtain⟨n,last,rfl,v,o,nl,m,q⟩:=h;have H:(2000:Nat)<=sizeLine:=by decide
 obtain⟨k1,k2,k3,⟨c,cs,y,k5⟩,B⟩:=tU v o;refine⟨by omega,?_⟩;refine cD (λ_=>?_) (λc=>absurd (show(1:Int)<=((bg n).length:Nat) by omega) c);have g:last.natAbs.log2<1920/\(bg last).length<=6/\(bg n).length<=(bg last).length:=by
  rcases m with rfl|rfl
  .have:=k3 nl
   have e:(bg 9).length=1:=by decide+kernel
   exact⟨by decide+kernel,by omega,by omega⟩
  .have e:(bg 999999).length=6:=by decide+kernel
   exact⟨by decide+kernel,by omega,by omega⟩
 refine⟨g.1,show(bg last).length<=sizeLine by omega,?_⟩;refine cN (λc=>absurd (show((bg n).length:Int)<=((bg last).length:Nat) by omega) c) (λ_=>?_);have p:bU (bg n).cps.toList 0=some c:=by rw[y];exact xw (j:=0) rfl
 conv=>whnf
 rw[p];refine⟨by omega,?_⟩;refine cD (λe=>absurd ?_ k5) (λ_=>?_)
 .have e:(⟨#[c]⟩:Str)="0":=e
  have u:=cz (λz:Str=>z.cps.toList) e;have C:("0":Str).cps.toList=[48]:=by decide+kernel
  simp only[C] at u;simpa using u
 refine iY (f:=λ_=>.bl true) trivial _ _ (λx r=>⟨[x],rfl,λQ D=>?_⟩) ?_ ?_
 .obtain⟨d,hd,rfl⟩:=b9.mp r
  show Q (.bl (Txt.contains "0123456789" (S [d]))) A;rw[B d hd];exact D
 .have:(cR (bg n)).length=(bg n).length:=by simp[cR,Str.length]
  show 0+(cR (bg n)).length<=sizeLine;omega
 refine l9 (bs:=(cR (bg n)).map λ_=>true) aT (ko _ _) ?_;rw[show((cR (bg n)).map λ_=>true).all id=true by simp];exact⟨n,PySem.W.KIN.num_reads (by omega) (by omega),by omega,q _ Gr.push⟩
theorem Gy(T:TopD K mg "weight_ahead" Bw qx){t:Tok}(a:mg "LONGEST_NAME"=some (.int 3 t))(b:aj P w K mg base 1 "is_name" gM (ak mg 1 oA)):aj P w K mg base 2 "weight_ahead" qx (ak mg 1 w_):=by
 refine bC T LG λs B x y nd=>⟨_,(aD (dS 1 nd ai)
  (aD (Fb z0 (PW.pt (Fd (vh (vr 1) (eK a)) (Fe (bQ (dL b s x (aa (jA (vr 0) (gi (vr 1)) (gi (c8 (vr 1) ai))) af)))))) (aA (E8 (i:=1) nd rfl (by first|exact Or.inl rfl|exact Or.inr rfl) ai)))
  (aD (aX (cJ y (vr 1) ai) (aA jB) aY)
  (aA (aG (c9 (aa (c9 (aa aN (aa (jA (vr 0) mF (gi (vr 1))) af))) (aa (jA (vr 0) (gi (vr 1)) mF) af)))))))),λds A R h C=>?_⟩
 obtain⟨n,rest,rfl,hn,l,hr2,q⟩:=h;have D:(2000:Nat)<=sizeLine:=by decide
 have ln:n.length=n.cps.toList.length:=by simp[Str.length]
 have E:=hn.lo;have F:=hn.hi;have lt:(n.cps.toList++rest).length=n.length+rest.length:=by rw[b_,ln]
 have m:(S (n.cps.toList++rest)).length<=sizeLine:=by rw[d8,lt];omega
 have fin:∀A',Gr A A'->u0 (.str (S (n.cps.toList++rest))) none (some ((n.length:Nat):Int)) A' (λv o=>2<=sizeLine/\u0 (.str (S (n.cps.toList++rest))) (some ((n.length:Nat):Int)) none o λu p=>2<=sizeLine/\R (.tup [.tup [.str "weight",v],u]) p):=λA' g=>by
  refine⟨m,by decide,m,by decide,?_⟩;rw[LW _ (by rw[lt];omega),u5 _ (by rw[lt];omega),ln,List.take_left,List.drop_left,iw];exact q _ g
 refine⟨λk τ A'=>∃e:Nat,e<=n.length/\k=n.length - e/\τ=[some (.str (S (n.cps.toList++rest))),some (.int e)]/\Gr A A',⟨_,0,by omega,rfl,rfl,Gr.refl⟩,?_⟩;rintro k τ o ⟨e,G,rfl,rfl,g⟩;refine cD (λc=>?_) (λc=>?_)
 .have c:((e:Nat):Int)<3:=c
  have d:Txt.slice (S (n.cps.toList++rest)) (some ((e:Nat):Int)) (some (((e:Nat):Int)+1))=S (((n.cps.toList++rest).drop e).take 1):=by
   have:=u6 (n.cps.toList++rest) (i:=e) (j:=e+1) (by omega) (by rw[lt];omega);rw[show(((e+1:Nat)):Int)=((e:Nat):Int)+1 by omega] at this;rw[this,show e+1 - e=1 by omega]
  refine⟨m,rfl,_,rfl,?_,λp g2=>?_⟩
  .show decide ((Txt.slice (S (n.cps.toList++rest)) (some ((e:Nat):Int)) (some (((e:Nat):Int)+1))).length<=sizeLine)=true
   rw[d,d8];exact dN (by rw[f6];omega)
  show cond (c_ (.str (Txt.slice (S (n.cps.toList++rest)) (some ((e:Nat):Int)) (some (((e:Nat):Int)+1))))) _ _;rw[d];by_cases z:e<n.length
  .have hc:e<n.cps.toList.length:=by omega
   have r:((n.cps.toList++rest).drop e).take 1=[n.cps.toList[e]]:=by
    rw[List.drop_append_of_le_length (by omega),jY hc];rfl
   rw[r,Hq (hn.az _ (cA hc))];refine⟨λτ A'=>τ=[some (.str (S (n.cps.toList++rest))),some (.int ((e+1:Nat):Int))]/\Gr A A',λbW A' ⟨h1,h2⟩=>⟨n.length - (e+1),by omega,e+1,by omega,rfl,h1,h2⟩,?_⟩;exact⟨rfl,g.trans g2⟩
  .have f:e=n.length:=by omega
   have r:(n.cps.toList++rest).drop e=rest:=by rw[f,ln,List.drop_left]
   rw[r,Ho l];subst f;refine cD (λc=>absurd (show((n.length:Nat):Int)=0 from c) (by omega)) (λ_=>?_);exact fin p (g.trans g2)
 .have c:¬((e:Nat):Int)<3:=c
  have f:e=n.length:=by omega
  subst f;refine cD (λc=>absurd (show((n.length:Nat):Int)=0 from c) (by omega)) (λ_=>?_);exact fin o g
end My
namespace DP
open L2 MA
abbrev wh:Ct:=SV λds v=>∃rs,ds=[eL rs]/\fy rs/\v=.aM
end DP
namespace My
open L2 DP MA
theorem Gi(T:TopD K mg "is_named_number" uV jN)(a:mg "isinstance"=none)(e:mg "tuple"=none)(f:mg "len"=none){t:Tok}(c:mg "HEAVIEST"=some (.int 999999 t))
  (d:aj P w K mg base 1 "is_name" gM (ak mg 1 rZ))(b:aj P w K mg base 1 "is_number" iJ (ak mg 3 r9)):aj P w K mg base 2 "is_named_number" jN (ak mg 1 wM):=by
 refine bC T BK λi k j g nd=>⟨_,(aD (aX (PW.pt (cF (bP (bQ (eG kit_tuple a e jk (vr 0)))) (dw (fE g (bO cY cH f c6 (aa (vr 0) af)) ai)))) (aA (aG dU)) aY)
  (aA (aG (jx (dL d i j (aa (dX g (vr 0) ai) af)) (jz (dL b i j (aa (dX g (vr 0) ai) (aa ai (aa (eK c) af))))))))),λds A R h l=>?_⟩
 obtain⟨v,⟨r,rfl,hn,⟨h1,h2⟩,rfl⟩,q⟩:=h;refine⟨rfl,_,⟨r.1,rfl,hn,rfl⟩,λm g1=>?_⟩;refine⟨rfl,_,⟨r.2,1,999999,rfl,rfl⟩,λn g2=>?_⟩;rw[show(decide (1<=r.2)&&decide (r.2<=999999))=true by simp[h1,h2]];exact q _ (g1.trans g2)
theorem pw_eq{ys ss:List Str}(h1:ys.Pairwise strLt)(h2:ss.Pairwise strLt)(b:∀x,x∈ys↔x∈ss):ys=ss:=by
 induction ys generalizing ss with
 |nil=>
  cases ss with
  |nil=>rfl
  |cons a r=>exact absurd ((b a).mpr (bJ ..)) (by simp)
 |cons y ys f=>
  cases ss with
  |nil=>exact absurd ((b y).mp (bJ ..)) (by simp)
  |cons a r=>
   have d:=lG.mp h1;have p2:=lG.mp h2;have e:y=a:=by
    have g:=(b y).mp (bJ ..);have h:=(b a).mpr (bJ ..);rcases aW.mp g with q|q
    .exact q
    rcases aW.mp h with q'|q'
    .exact q'.symm
    exact absurd (List.lt_trans (p2.1 y q) (d.1 a q')) (rE _)
   subst e;rw[f d.2 p2.2 λx=>?_];constructor
   .intro c
    rcases aW.mp ((b x).mp (bE _ c)) with q|q
    .subst q;exact absurd (d.1 x c) (rE _)
    .exact q
   .intro c
    rcases aW.mp ((b x).mpr (bE _ c)) with q|q
    .subst q;exact absurd (p2.1 x c) (rE _)
    .exact q
theorem F6(T:TopD K mg "is_weights" uX jd)(b:mg "isinstance"=none)(g:mg "tuple"=none)(j:mg "all"=none)(d:mg "sorted"=none)(k:mg "set"=none)
  (a:aj P w K mg base 2 "is_named_number" jN (ak mg 1 wM)):aj P w K mg base 3 "is_weights" jd (ak mg 1 rW):=by
 refine bC T BN λl F p t nd=>⟨_,(aD (aX (PW.pt (cF (bP (bQ (eG kit_tuple b g jk (vr 0)))) (dw (bP (bQ (bO (mh rfl) mz j boot_all (aa (iy none (own:=["pair"]) (frees:=[]) (ix:=[]) rfl (iz (vr 0)) (λc=>(pG 0 (show(["pair"]:List Str).Nodup by decide+kernel))) (λc=>(dL a l qB (aa (vr 0) af)))) af))))))) (aA (aG dU)) aY)
  (aD (yu none (own:=["pair"]) (frees:=[]) (ix:=[]) (i:=1) nd rfl (by first|exact Or.inl rfl|exact Or.inr rfl) rfl (iz (vr 0)) (λc=>(pG 0 (show(["pair"]:List Str).Nodup by decide+kernel))) (λc=>(dX t (vr 0) ai)))
  (aA (aG (i_ t (vr 1) (sR d k rfl (aa (vr 1) af))))))),λds A R h G=>?_⟩
 obtain⟨v,⟨rs,rfl,m,rfl⟩,q⟩:=h;have u:0+(rs.map cy).length<=sizeLine:=by
  have:=m.len;have:(64:Nat)<=sizeLine:=by decide
  simp;omega
 have o:∀n∈rs.map (·.1),Nm n:=λn hn=>by
  obtain⟨r,l,rfl⟩:=b9.mp hn;exact m.nm r l
 refine sL (λ_=>.bl true) _ _ _ (λ_ _=>trivial) (λx p z g1=>⟨[x],rfl,λQ s=>?_⟩) u (λz g1=>?_)
 .obtain⟨r,l,rfl⟩:=b9.mp p
  exact⟨rfl,_,⟨r,rfl,m.nm r l,m.no r l,rfl⟩,s⟩
 refine l9 (bs:=(rs.map cy).map λ_=>true) aT (ko _ _) ?_;rw[show((rs.map cy).map λ_=>true).all id=true by simp];refine iY (f:=λx=>match x with|.tup (y::_)=>y|x=>x) trivial _ _ (λx p=>⟨[x],rfl,λQ s=>?_⟩) u ?_
 .obtain⟨r,l,rfl⟩:=b9.mp p
  exact s
 have e:(rs.map cy).map (λx=>match x with|.tup (y::_)=>y|x=>x)=(rs.map (·.1)).map D.str:=by
  rw[iS,iS];rfl
 rw[jR,e];refine u7 (ss:=rs.map (·.1)) aT (by have:=strs_map id (rs.map (·.1));simpa using this) (by have:=m.len;simpa using this) λys B C=>?_;have E:=pw_eq B m.up C;subst E;refine yF (getElem?_push aT) aT o o ?_;rw[dN rfl];exact q _ (((g1.trans Gr.push).trans Gr.push).trans Gr.push)
theorem F8(T:TopD K mg "leaves_below" Bl nc):∀d,aj P w K mg base (d+1) "leaves_below" nc (ak mg 2 (rX d)):=by
 intro d;induction d with
 |zero=>
  refine fQ T λds A R RE h=>?_;obtain⟨v,⟨m,w,_,h,_⟩,_⟩:=h;omega
 |succ d c=>
  refine eN T Lw rfl (by decide) λN RE f j B outer s H E g o i ds A R h p=>?_;have e:=g.units;refine⟨_,(aD (aX (cJ e (dX e (vr 0) ai) aN) (aA (aG (eH (aa (c9 (aa (vr 1) (aa (dX e (vr 0) ai) af))) af)))) aY)
  (aA (aG (c8 (dL c g i (aa (dX e (vr 0) ai) (aa (c8 (vr 1) aN) af))) (dL c g i (aa (dX e (vr 0) ai) (aa (c8 (vr 1) aN) af))))))),?_⟩
  obtain⟨v,⟨m,w,rfl,hd,t,u,rfl⟩,q⟩:=h;have z:(100:Nat)<=sizeLine:=by decide
  cases m with
  |wt n=>exact⟨by show 2<=sizeLine;omega,by show 1<=sizeLine;omega,q _ _ Gr.push aT⟩
  |ay l r a b=>
   have k:max a.deep b.deep+1<d+1:=hd;have C:("l":Str).length=1:=by decide+kernel
   have D:("r":Str).length=1:=by decide+kernel
   have al:∀x y:Str,(x++y).length=x.length+y.length:=λx y=>lI;refine⟨by omega,rfl,_,⟨a,_,rfl,by omega,by rw[al];omega,by omega,rfl⟩,λF G g1 h1=>?_⟩;refine⟨by omega,rfl,_,⟨b,_,rfl,by omega,by rw[al];omega,by omega,rfl⟩,λI J g2 h2=>?_⟩;have L:=aS.iH a;have M:=aS.iH b;have O:2 ^ a.deep<=2 ^ 8:=dc (by decide) (by omega);have p2:2 ^ b.deep<=2 ^ 8:=dc (by decide) (by omega);have Q:(512:Nat)<=sizeLine:=by decide
   refine kB (g2.get h1) h2 (by rw[bB,bB,ug,ug];omega) (q _ _ ((g1.trans g2).trans Gr.push) ?_);rw[aT];simp[jF]
theorem F_(T:TopD K mg "load_below" Bm ng)(b:mg "sum"=none)(a:aj P w K mg base 9 "leaves_below" nc (ak mg 2 (rX 8))):aj P w K mg base 10 "load_below" ng (ak mg 2 (rY 6)):=by
 refine bC T Ly λi u d j nd=>⟨_,(aA (aG (bO (DM rfl) EN b boot_sum (aa (iy (some 2) (own:=["way","name"]) (frees:=["numbers"]) (ix:=[1]) rfl (iz (dL a i d (aa (vr 0) (aa aN af)))) (λc=>(uF rfl (ni (pG 0 (show(["way","name","numbers"]:List Str).Nodup by decide+kernel)) (ni (pG 1 (show(["way","name","numbers"]:List Str).Nodup by decide+kernel)) uG)))) (λc=>(dX j (vr 2) (vr 1)))) af)))),λds A R h v=>?_⟩;obtain⟨m,r,rs,rfl,k,l,hd,hn,q⟩:=h;refine⟨rfl,_,⟨m,_,rfl,by omega,by decide+kernel,by omega,rfl⟩,λy z g1 h1=>?_⟩;refine pM h1 ?_;have B:=aS.iH m;have C:2 ^ m.deep<=2 ^ 6:=dc (by decide) hd;have E:(64:Nat)<=sizeLine:=by decide
 refine iY (f:=λx=>match x with|.tup [_,.str n]=>.int (val rs n)|x=>x) h1 _ _ (λx d=>?_) (by simp[ug];omega) ?_
 .obtain⟨p,o,rfl⟩:=b9.mp d
  refine⟨[.str p.1,.str p.2],rfl,λQ s=>?_⟩;have t:p.2∈m.names:=by rw[<-k6 m ""];exact lF o
  exact HE (g1.get k) rfl (tM rs p.2 (hn _ t)) s
 have e:((jF m "").map eS).map (λx=>match x with|.tup [_,.str n]=>D.int (val rs n)|x=>x)=m.names.map λn=>D.int (val rs n):=by
  rw[<-k6 m "",iS,iS];rfl
 rw[jR,e];refine Mm (ns:=m.names.map (val rs)) aT (ints_map _ _) (λn g=>?_) (by simp;omega) ?_
 .obtain⟨x,d,rfl⟩:=b9.mp g
  have:=Nf l (hn x d);omega
 .rw[t8]
  exact q _ (g1.trans Gr.push)
theorem FT(T:TopD K mg "check_are_weights" uQ jK){a:Addr}(c:mg "NoWeights"=some (.ref a))(d:excIn K a jO "ValueError.__new__"=true)
  (b:aj P w K mg base 3 "is_weights" jd (ak mg 1 rW)):aj P w K mg base 4 "check_are_weights" jK (ak mg 1 wh):=by
 refine bC T BF λe f g j nd=>⟨_,(aA (aX (bP (bQ (dL b e g (aa (vr 0) af)))) (aA (mH f rfl c d (aa aN af))) aY)),λds A R h k=>?_⟩;obtain⟨v,⟨rs,rfl,i,rfl⟩,q⟩:=h;exact⟨rfl,_,⟨rs,rfl,i,rfl⟩,λl g1=>q _ g1⟩
theorem FZ(T:TopD K mg "check_weights" Bg m_)(i:mg "dict"=none){d:Addr}(f:mg "NoWeights"=some (.ref d))(g:excIn K d jO "ValueError.__new__"=true)
  (c:aj P w K mg base 4 "check_are_weights" jK (ak mg 1 wh))(e:aj P w K mg base 9 "leaves_below" nc (ak mg 2 (rX 8))):aj P w K mg base 10 "check_weights" m_ (ak mg 2 rV):=by
 refine bC T Lu λl r j s nd=>⟨_,(aD (e_ (dL c l j (aa (vr 1) af)))
  (aD (dS 2 nd (jy (sE rfl) sP i boot_dict (aa (vr 1) af)))
  (aA (E9 z0 rfl (iz (dL e l j (aa (vr 0) (aa aN af)))) (E1 rfl (yl (dG 3 nd) (yl (dG 4 nd) E2))) (aA (aX (MX s (vr 4) (vr 2)) (aA (mH r rfl f g (aa (ES (vr 4)) af))) aY)))))),λds A R h C=>?_⟩
 obtain⟨v,⟨m,rs,rfl,n,hd,hn,rfl⟩,q⟩:=h;refine⟨rfl,_,⟨rs,rfl,n,rfl⟩,λo g1=>?_⟩;refine sV n ?_;refine⟨rfl,_,⟨m,_,rfl,by omega,by decide+kernel,by omega,rfl⟩,λt D g2 h2=>?_⟩;refine pM h2 ?_;have u:t[o.length]?=some (.dct (d_ rs)):=g2.get aT;refine yq h2 (λτ=>∃a b,τ=[some (enc m),some (eL rs),some (.ref o.length),a,b]) _ _ ⟨none,none,rfl⟩ (λx j τ k E y=>?_) (λτ _=>q _ ((g1.trans Gr.push).trans g2));obtain⟨a,b,rfl⟩:=k;obtain⟨p,z,rfl⟩:=b9.mp j;have B:p.2∈m.names:=by rw[<-k6 m ""];exact lF z
 refine⟨rfl,G9 u rfl ?_⟩;rw[tM rs p.2 (hn _ B)];exact y _ ⟨_,_,rfl⟩
theorem FU(T:TopD K mg "_law_cell_at" AS p_)(a:mg "len"=none):aj P w K mg base 1 "_law_cell_at" p_ (ak mg 2 wk):=by
 refine bC T Li λg i j d nd=>⟨_,(aD (aX (vh (vr 1) (bO cY cH a c6 (aa (vr 0) af))) (aA (aG (dX d (vr 0) (vr 1)))) aY)
  (aD (aX (cJ d (vr 0) (eH af)) (aA (aG ai)) aY)
  (aA (aG (c8 (kF (dX d (vr 0) (kE (vr 1) (bO cY cH a c6 (aa (vr 0) af)))) ai) (vr 1)))))),λds A R h l=>?_⟩
 obtain⟨ns,k,rfl,hk,q⟩:=h;refine cD (λc=>?_) (λc=>?_)
 .obtain⟨v,e,_⟩:=oK hk c
  conv=>whnf
  rw[e];exact q v _ Gr.refl
 .refine⟨c5 _,Fw ?_⟩
  refine cD (λf=>?_) (λf=>?_)
  .exact q _ _ Gr.push
  .have b:0<(ns.length:Int):=by
    have:=List.length_pos_iff.mpr f;omega
   obtain⟨v,e,_⟩:=oK (xs:=ns) (emod_nonneg k (by omega)) (qZ k b);refine⟨b,?_⟩;conv=>whnf
   rw[e];exact⟨.inr ⟨by decide,by decide⟩,q _ _ Gr.push⟩
theorem Gf(T:TopD K mg "_law_mixed" AX qc)(a:aj P w K mg base 1 "_law_cell_at" p_ (ak mg 2 wk)):aj P w K mg base 2 "_law_mixed" qc (ak mg 3 wK):=by
 refine bC T Ll λc e d f nd=>⟨_,(aD (dS 3 nd (kE (c8 (c8 (kF (dL a c d (aa (vr 0) (aa (vr 1) af))) ai) (kF ai (vr 1))) ai) ai))
  (aA (aG (kE (kE (kE (EV (vr 3) ai) ai) ai) (vr 2))))),λds A R h j=>?_⟩
 obtain⟨ns,k,m,rfl,hk,b,q⟩:=h;refine⟨rfl,ns,k,rfl,hk,λi A' g=>?_⟩;refine⟨.inr ⟨by decide,by decide⟩,.inl ⟨by decide,by decide⟩,(by decide:(0:Int)<2147483647),?_⟩;have l:=emod_nonneg (i*1103515245+7919*k+12345) (show(2147483647:Int)≠0 by decide);have n:=qZ (i*1103515245+7919*k+12345) (show(0:Int)<2147483647 by decide);refine⟨⟨by decide,by decide,?_⟩,(by decide:(0:Int)<2147483647),(by decide:(0:Int)<999983),b,?_⟩
 .have:(2147483647:Nat)<2 ^ 64:=by decide
  omega
 exact q _ _ (emod_nonneg _ (by omega)) (qZ _ b) g
theorem F0(T:TopD K mg "_law_draw" AU jc)(b:mg "len"=none)(a:aj P w K mg base 2 "_law_mixed" qc (ak mg 3 wK)):aj P w K mg base 3 "_law_draw" jc (ak mg 3 j_):=by
 refine bC T Lj λe l f o nd=>⟨_,(aD (e_ (o4 q8 qY rG m5 oY (vr 1) (aa ai af)))
  (aA (aG (dL a e f (aa (vr 0) (aa (bO cY cH b c6 (aa (vr 1) af)) (aa (vr 2) af))))))),λds A R h p=>?_⟩
 obtain⟨ns,t,m,n,rfl,⟨xs,d,j⟩,hn,k,q⟩:=h;refine⟨pL d,oG d (by rw[sizeLine];omega) ?_⟩;have c:(A.set t (.lst (xs++[.int 0])))[t]?=some (.lst (xs++[.int 0])):=get_set d;refine pT c ⟨rfl,ns,_,m,rfl,by omega,k,λi A' h0 h1 g=>?_⟩;exact q i A' h0 h1 (cU.set.trans g.but) (Tw.gr ⟨_,c,by simpa using j⟩ g)
theorem Gk(T:TopD K mg "_law_pick" A_ k_)(c:mg "len"=none)(a:aj P w K mg base 3 "_law_draw" jc (ak mg 3 j_)):aj P w K mg base 4 "_law_pick" k_ (ak mg 3 lZ):=by
 refine bC T Ln λd m e g nd=>⟨_,(aA (aG (dX g (vr 2) (dL a d e (aa (vr 0) (aa (vr 1) (aa (bO cY cH c c6 (aa (vr 2) af)) af))))))),λds A R h o=>?_⟩;obtain⟨ns,t,r,xs,n,rfl,f,d,e,j,hn,q⟩:=h;have p:=List.length_pos_iff.mpr e;refine pT d ⟨rfl,ns,t,_,n,rfl,j,hn,by omega,λi A' h0 h1 b t'=>?_⟩;obtain⟨v,k,l⟩:=oK h0 h1;exact HA (b r _ f d) k (q v A' l b t')
theorem Gg(T:TopD K mg "_law_mobile" AY qd)(a:aj P w K mg base 3 "_law_draw" jc (ak mg 3 j_))(g:aj P w K mg base 4 "_law_pick" k_ (ak mg 3 lZ)):∀d,aj P w K mg base (d+4) "_law_mobile" qd (ak mg 4 (wL d)):=by
 intro d;induction d with
 |zero=>
  refine fQ T λds A R RE h=>?_;obtain⟨ns,t,q,p,n,_,h,_⟩:=h;omega
 |succ d e=>
  refine eN T BD rfl (by decide) λN RE f cdv B outer s H E o hR l ds A R h hl=>?_;have W:=o.units;have nd:=BD.nd;refine⟨_,(aD (aX (PW.pt (cF (cJ W (vr 3) ai) (dw (cJ W (dL a o l (aa (vr 0) (aa (vr 1) (aa ai af)))) ai)))) (aA (aG (c9 (aa aN (aa (dL g o l (aa (vr 0) (aa (vr 1) (aa (vr 2) af)))) af))))) aY)
  (aD (dS 4 nd (dL g o l (aa (vr 0) (aa (vr 1) (aa (eH (aa ai (aa ai (aa ai (aa ai af))))) af)))))
  (aD (yv (i:=5) (j:=6) rfl nd rfl rfl (by decide) rfl rfl (aa (c8 ai (dL a o l (aa (vr 0) (aa (vr 1) (aa (vr 4) af))))) (aa (c8 ai (dL a o l (aa (vr 0) (aa (vr 1) (aa (vr 4) af))))) af)) rfl)
  (aD (dS 7 nd (dL e o l (aa (vr 0) (aa (vr 1) (aa (vr 2) (aa (i7 (vr 3) ai) af))))))
  (aA (aG (c9 (aa aN (aa (vr 5) (aa (vr 6) (aa (vr 7) (aa (dL e o l (aa (vr 0) (aa (vr 1) (aa (vr 2) (aa (i7 (vr 3) ai) af))))) af)))))))))))),?_⟩
  obtain⟨ns,t,r,p,n,rfl,_,m,S,u,v,X,hc,q⟩:=h;have hcs:=D6 d;have hcp:=D5 (d+1);have G:((d+1:Nat):Int) - 1=(d:Int):=by omega
  have leaf:∀F I,cU t A F->Tw t I F->n<=I->I+1<=n+cst (d+1)->lZ [.fl ns,.ref t,.ref r] F (λx A'=>2<=sizeLine/\R (.tup [.str "weight",x]) A') RE:=λF I J t1 h0 h1=>by
   refine⟨ns,t,r,_,I,rfl,m,J r _ m S,by simpa using u,t1,by omega,λx A' l b t'=>⟨by decide,?_⟩⟩;obtain⟨y,Y,rfl⟩:=b9.mp l;have one:∀z∈aS.names (aS.wt y),z=y:=λz L=>by simpa[aS.names] using L
   exact q (.wt y) A' ⟨trivial,λz L=>by rw[one z L];exact v y Y⟩ (Nat.succ_pos _) (λz L=>by rw[one z L];exact Y) ⟨J.trans b,t'.mono (by omega)⟩
  refine cD (λc=>⟨rfl,leaf A n cU.refl X (by omega) (by omega)⟩) (λc=>?_);refine⟨rfl,ns,t,4,n,rfl,X,by omega,by decide,λi F _ _ J t1=>?_⟩;refine cD (λc2=>⟨rfl,leaf F (n+1) J t1 (by omega) (by omega)⟩) (λc2=>?_);obtain⟨Nt,U,_⟩:=id t1;have M:0<d:=by omega
  have l1:=kZ U;refine⟨show 4<=sizeLine by decide,rfl,ns,t,_,[.int 2,.int 3,.int 4,.int 9],n+1,rfl,by omega,aT,by simp,t1.gr Gr.push,by omega,λx A2 l b2 t2=>?_⟩;obtain⟨most,rfl,m0,m9⟩:∃k:Int,x=.int k/\2<=k/\k<=9:=by
   simp at l;rcases l with h|h|h|h<;>exact⟨_,h,by omega,by omega⟩
  refine⟨rfl,ns,t,most,n+2,rfl,t2,by omega,by omega,λi3 A3 i0 i1 b3 t3=>?_⟩;refine⟨rfl,ns,t,most,n+3,rfl,t3,by omega,by omega,λi4 A4 j0 j1 b4 t4=>?_⟩;have C:cU t A A4:=(((J.trans (Gr.push.but)).trans b2).trans b3).trans b4;refine⟨rfl,ns,t,r,p,n+4,show [D.fl ns,D.ref t,D.ref r,D.int (((d+1:Nat):Int) - 1 - 1)]=_ by rw[G],M,m,C r _ m S,u,v,t4,by omega,λO A5 Z d1 s1 V=>?_⟩;refine⟨rfl,ns,t,r,p,n+4+cst d,show [D.fl ns,D.ref t,D.ref r,D.int (((d+1:Nat):Int) - 1 - 1)]=_ by rw[G],M,m,V.but r _ m (C r _ m S),u,v,V.tw,by omega,λQ A6 w2 d2 s2 r2=>?_⟩;refine⟨show 5<=sizeLine by decide,q (.ay (1+i3) (1+i4) O Q) A6 ⟨⟨by omega,by omega,by omega,by omega,Z.arms,w2.arms⟩,λx l=>?_⟩ (show max O.deep Q.deep+1<d+1 by omega) (λx l=>?_) ⟨(C.trans V.but).trans r2.but,r2.tw.mono (by omega)⟩⟩
  .rcases bF.mp (show x∈O.names++Q.names from l) with h|h
   .exact Z.nm x h
   .exact w2.nm x h
  .rcases bF.mp (show x∈O.names++Q.names from l) with h|h
   .exact s1 x h
   .exact s2 x h
theorem IW{c:Nat}(h1:97<=c)(h2:c<=122):Nm ⟨#[c]⟩:=by
 refine⟨by show 1<=1;decide,by show 1<=3;decide,λx a=>?_⟩;have:x=c:=by simpa using a
 omega
theorem xo:("abcdefghijklmnopqrstuvwxyz":Str).cps.toList=(range 26).map (·+97):=by decide+kernel
theorem Dk{k:Int}(h0:0<=k)(h1:k<26):∃c,bU ("abcdefghijklmnopqrstuvwxyz":Str).cps.toList k=some c/\97<=c/\c<=122:=by
 obtain⟨c,hc,a⟩:=oK (xs:=("abcdefghijklmnopqrstuvwxyz":Str).cps.toList) h0 (by rw[xo];simpa using h1);refine⟨c,hc,?_⟩;rw[xo] at a;obtain⟨j,b,rfl⟩:=b9.mp a;have:=mem_range.mp b;omega
theorem F1(T:TopD K mg "_law_fresh" AV qa)(g:mg "len"=none):∀d,aj P w K mg base (d+1) "_law_fresh" qa (ak mg 2 (wo d)):=by
 intro d;induction d with
 |zero=>
  refine fQ T λds A R RE h=>?_;obtain⟨m,q,n,_,_,h,_⟩:=h;omega
 |succ d e=>
  refine eN T BC rfl (by decide) λN RE f J B outer s H E u Z p ds A R h hl=>?_;have i:=u.units;have nd:=BC.nd;refine⟨_,(aD (aX (cJ i (dX i (vr 0) ai) aN) (aD (e_ (o4 q8 qY rG m5 oY (vr 1) (aa ai af)))
  (aA (aG (c9 (aa aN (aa (dX i aN (kE (kF (bO cY cH g c6 (aa (vr 1) af)) ai) ai)) af)))))) aY)
  (aD (dS 2 nd (dL e u p (aa (dX i (vr 0) ai) (aa (vr 1) af))))
  (aA (aG (c8 (EW (vr 0) mF (gi ai)) (c9 (aa (vr 2) (aa (dL e u p (aa (dX i (vr 0) ai) (aa (vr 1) af))) af)))))))),?_⟩
  obtain⟨m,r,n,rfl,L,hd,h8,⟨xs,t,j⟩,hn,q⟩:=h;have p2:2 ^ (d+1)=2*2 ^ d:=by rw[jS];omega
  have p0:0<2 ^ d:=pow_pos (by decide);have M:(1000000:Nat)<sizeLine:=by decide
  cases m with
  |wt y=>
   refine⟨pL t,oG t (by omega) ?_⟩;have k:(A.set r (.lst (xs++[.int 0])))[r]?=some (.lst (xs++[.int 0])):=get_set t;refine pT k ⟨.inr ⟨by decide,by decide⟩,(by decide:(0:Int)<26),?_⟩;obtain⟨c,hc,O,Q⟩:=Dk (emod_nonneg (((xs++[D.int 0]).length:Nat)*7:Int) (by decide)) (qZ (((xs++[D.int 0]).length:Nat)*7:Int) (by decide));refine HF hc (by decide+kernel) ⟨show 2<=sizeLine by decide,?_⟩;have one:∀z∈aS.names (aS.wt (⟨#[c]⟩:Str)),z=⟨#[c]⟩:=λz j=>by simpa[aS.names] using j
   exact q (.wt ⟨#[c]⟩) _ ⟨trivial,λz j=>by rw[one z j];exact IW O Q⟩ rfl ⟨cU.set,_,k,by simp;omega⟩
  |ay l r' a b=>
   have S:max a.deep b.deep+1<d+1:=hd;obtain⟨⟨h1,h2,h3,U,V,W⟩,o⟩:=L;refine⟨rfl,a,r,n,rfl,⟨V,λx h=>o x (by simp[aS.names,h])⟩,by omega,by omega,⟨xs,t,j⟩,by omega,λv A1 F X ra=>?_⟩;refine⟨show ¬(HT.aP 5 0 none=0/\HT.aP 5 5 (some 3)=5) by decide,rfl,b,r,n+2 ^ d,rfl,⟨W,λx h=>o x (by simp[aS.names,h])⟩,by omega,by omega,ra.tw,by omega,λC Y G db I=>?_⟩;refine⟨show 2<=sizeLine by decide,show 3+2<=sizeLine by decide,?_⟩;refine q (.ay l r' v C) Y ⟨⟨h1,h2,h3,U,F.arms,G.arms⟩,λx p=>?_⟩ (show max v.deep C.deep+1=max a.deep b.deep+1 by rw[X,db]) ⟨ra.but.trans I.but,I.tw.mono (by omega)⟩;rcases bF.mp (show x∈v.names++C.names from p) with h|h
   .exact F.nm x h
   .exact G.nm x h
end My
namespace DP
open L2 MA
def fR:D->Bool
 |.tup [a,b]=>c_ a&&dW b 1 999999
 |_=>false
def oj(x:D):Prop:=∃rs,x=eL rs/\fy rs
def qK(x:D):Prop:=∀xs,x=.tup xs->xs.length<64
def wN:Ct:=λds A R _=>∃x,ds=[x]/\br A x=true/\∀A',Gr A A'->R (.bl (fR x)) A'
def wB:Ct:=λds A R _=>∃x,ds=[x]/\br A x=true/\qK x/\∀A',Gr A A'->∀b:Bool,(b=true↔oj x)->R (.bl b) A'
def wj:Ct:=λds A R E=>∃x,ds=[x]/\br A x=true/\qK x/\(oj x->∀A',Gr A A'->R .aM A')/\(¬oj x->∀A',Gr A A'->E "NoWeights" A')
theorem Hr{x:D}(h:c_ x=true):∃n,x=.str n/\Nm n:=by
 cases x with
 |str n=>
  unfold c_ at h;rw[bZ,bZ,gZ,gZ] at h;obtain⟨⟨h1,h2⟩,h3⟩:=h;refine⟨n,rfl,⟨by omega,by omega,λc hc=>?_⟩⟩;have:=ji.mp h3 (.str ⟨#[c]⟩) (b9.mpr ⟨c,hc,rfl⟩);have this:(!decide ((⟨#[c]⟩:Str).cps.toList<("a":Str).cps.toList)&& !decide (("z":Str).cps.toList<(⟨#[c]⟩:Str).cps.toList))=true:=this;rw[My.qI,My.qJ] at this;simp only[bZ,nP,lO] at this;have t1:¬([c]:List Nat)<[97]:=this.1;have a:¬([122]:List Nat)<[c]:=this.2;rw[My.jJ] at t1 a;omega
 |_=>cases h
theorem Hl{x:D}(h:fR x=true):∃r:Str×Int,x=cy r/\Nm r.1/\1<=r.2/\r.2<=999999:=by
 unfold fR at h;split at h
 .rename_i a b
  rw[bZ] at h;obtain⟨n,rfl,hn⟩:=Hr h.1;cases b with
  |int i=>
   have h2:(decide ((1:Int)<=i)&&decide (i<=999999))=true:=h.2;simp only[bZ,gZ] at h2;exact⟨(n,i),rfl,hn,h2.1,h2.2⟩
  |_=>exact absurd h.2 (by simp[dW])
 .cases h
theorem K3{r:Str×Int}(hn:Nm r.1)(h1:1<=r.2)(h2:r.2<=999999):fR (cy r)=true:=by
 show(c_ (.str r.1)&&(decide ((1:Int)<=r.2)&&decide (r.2<=999999)))=true;rw[tS hn,dN h1,dN h2];rfl
theorem AK:∀{xs:List D},(∀x∈xs,fR x=true)->∃rs:List (Str×Int),xs=rs.map cy/\∀r∈rs,Nm r.1/\1<=r.2/\r.2<=999999
 |[],_=>⟨[],rfl,λ_ h=>by cases h⟩
 |x::xs,h=>by
  obtain⟨r,rfl,h1⟩:=Hl (h x (bJ ..));obtain⟨rs,rfl,h2⟩:=AK λy a=>h y (bE _ a);exact⟨r::rs,rfl,λq hq=>by
   rcases aW.mp hq with rfl|hq
   .exact h1
   .exact h2 q hq⟩
theorem Fg{rs a:List (Str×Int)}(h:eL rs=eL a):rs=a:=by
 unfold eL at h;injection h with h;induction rs generalizing a with
 |nil=>cases a with
  |nil=>rfl
  |cons _ _=>cases h
 |cons r rs b=>cases a with
  |nil=>cases h
  |cons r' a=>
   simp only[eB,List.cons.injEq] at h;have e:=h.1;unfold cy at e;simp at e;rw[b h.2,Prod.ext e.1 e.2]
theorem zX{A:Ar}:∀{xs:List D} {x:D},eT A xs=true->x∈xs->br A x=true
 |y::xs,x,h,hx=>by
  have h:(br A y&&eT A xs)=true:=h;rw[bZ] at h;rcases aW.mp hx with rfl|hx
  .exact h.1
  .exact zX h.2 hx
end DP
namespace My
open L2 DP MA
theorem FO(T:TopD K mg "is_named_number" uV jN)(d:mg "isinstance"=none)(j:mg "tuple"=none)(k:mg "len"=none){t:Tok}(g:mg "HEAVIEST"=some (.int 999999 t))
  (i:aj P w K mg base 1 "is_name" gM (ak mg 1 oA))(f:aj P w K mg base 1 "is_number" iJ (ak mg 3 r_)):aj P w K mg base 2 "is_named_number" jN (ak mg 1 wN):=by
 refine bC T BK λn s o m nd=>⟨_,(aD (aX (PW.pt (cF (bP (bQ (eG kit_tuple d j jk (vr 0)))) (dw (fE m (bO cY cH k c6 (aa (vr 0) af)) ai)))) (aA (aG dU)) aY)
  (aA (aG (jx (dL i n o (aa (dX m (vr 0) ai) af)) (jz (dL f n o (aa (dX m (vr 0) ai) (aa ai (aa (eK g) af))))))))),λds A R h u=>?_⟩
 obtain⟨x,rfl,hk,q⟩:=h;cases x with
 |tup xs=>
  have hk:eT A xs=true:=hk;refine cN (λc=>?_) (λc=>?_)
  .have e:fR (.tup xs)=false:=by
    match xs,c with
    |[],_=>rfl
    |[_],_=>rfl
    |[a,b],c=>exact absurd rfl c
    |_::_::_::_,_=>rfl
   have:=q A Gr.refl;rw[e] at this;exact this
  .obtain⟨a,b,rfl⟩:∃a b,xs=[a,b]:=by
    have c:((xs.length:Nat):Int)=2:=c;match xs,c with
    |[a,b],_=>exact⟨a,b,rfl⟩
    |[],c=>simp at c
    |[_],c=>simp at c
    |_::_::_::_,c=>simp at c;omega
   have l:(br A a&&(br A b&&true))=true:=hk;simp only[bZ,and_true] at l;have q:∀A',Gr A A'->R (.bl (c_ a&&dW b 1 999999)) A':=q;refine⟨rfl,a,rfl,l.1,λv g1=>?_⟩;cases p:c_ a with
   |false=>
    rw[p] at q;exact q _ g1
   |true=>
    rw[p] at q;exact⟨rfl,b,1,999999,rfl,k8 g1 _ l.2,λy g2=>q _ (g1.trans g2)⟩
 |exc c=>cases hk
 |ref r=>
  rcases k9 hk with e|e;all_goals
   conv=>whnf
   rw[e];exact q _ Gr.refl
 |_=>exact q _ Gr.refl
theorem FJ(T:TopD K mg "is_weights" uX jd)(d:mg "isinstance"=none)(k:mg "tuple"=none)(o:mg "all"=none)(g:mg "sorted"=none)(p:mg "set"=none)
  (a:aj P w K mg base 2 "is_named_number" jN (ak mg 1 wN)):aj P w K mg base 3 "is_weights" jd (ak mg 1 wB):=by
 refine bC T BN λj O m H nd=>⟨_,(aD (aX (PW.pt (cF (bP (bQ (eG kit_tuple d k jk (vr 0)))) (dw (bP (bQ (bO (mh rfl) mz o boot_all (aa (iy none (own:=["pair"]) (frees:=[]) (ix:=[]) rfl (iz (vr 0)) (λc=>(pG 0 (show(["pair"]:List Str).Nodup by decide+kernel))) (λc=>(dL a j qB (aa (vr 0) af)))) af))))))) (aA (aG dU)) aY)
  (aD (yu none (own:=["pair"]) (frees:=[]) (ix:=[]) (i:=1) nd rfl (by first|exact Or.inl rfl|exact Or.inr rfl) rfl (iz (vr 0)) (λc=>(pG 0 (show(["pair"]:List Str).Nodup by decide+kernel))) (λc=>(dX H (vr 0) ai)))
  (aA (aG (i_ H (vr 1) (sR g p rfl (aa (vr 1) af))))))),λds A R h S=>?_⟩
 obtain⟨x,rfl,hk,z,q⟩:=h;have l:(∀xs,x≠ .tup xs)->R (.bl false) A:=λh=>q _ Gr.refl false ⟨λe=>(by cases e),λ⟨rs,e,_⟩=>absurd e (h _)⟩;cases x with
 |tup xs=>
  have hk:eT A xs=true:=hk;have s:=z xs rfl;have U:(1000:Nat)<=sizeLine:=by decide
  refine sL (λx=>.bl (fR x)) _ _ _ (λ_ _=>trivial) (λx m I g1=>⟨[x],rfl,λQ B=>?_⟩) (show 0+xs.length<=sizeLine by omega) (λI g1=>?_)
  .exact⟨rfl,x,rfl,k8 g1 _ (zX hk m),λM g2=>B _ g2⟩
  rw[jR];refine l9 (bs:=xs.map fR) aT (ko _ _) ?_;have g2:=g1.trans (Gr.push (T:=[C.lst (xs.map λx=>D.bl (fR x))]));generalize I++[C.lst (xs.map λx=>D.bl (fR x))]=M at*
  cases E:(xs.map fR).all id with
  |false=>
   refine q _ g2 false ⟨λe=>(by cases e),λ⟨rs,e,u⟩=>?_⟩;injection e with e;subst e;have:((rs.map cy).map fR).all id=true:=ji.mpr λb N=>by
    obtain⟨x,m,rfl⟩:=b9.mp N;obtain⟨r,j,rfl⟩:=b9.mp m;exact K3 (u.nm r j) (u.no r j).1 (u.no r j).2
   rw[this] at E;cases E
  |true=>
   obtain⟨rs,rfl,t⟩:=AK (xs:=xs) λx m=>ji.mp E _ (lF m);rw[bB] at s;refine iY (f:=λx=>match x with|.tup (y::_)=>y|x=>x) trivial _ _ (λx m=>⟨[x],rfl,λQ B=>?_⟩) (show 0+(rs.map cy).length<=sizeLine by rw[bB];omega) ?_
   .obtain⟨r,j,rfl⟩:=b9.mp m
    exact B
   have e:(rs.map cy).map (λx=>match x with|.tup (y::_)=>y|x=>x)=(rs.map (·.1)).map D.str:=by
    rw[iS,iS];rfl
   rw[jR,e];have v:∀n∈rs.map (·.1),Nm n:=λn hn=>by
    obtain⟨r,j,rfl⟩:=b9.mp hn;exact(t r j).1
   refine u7 (ss:=rs.map (·.1)) aT (by have:=strs_map id (rs.map (·.1));simpa using this) (by simpa using s) λys J L=>?_;refine yF (getElem?_push aT) aT v (λn hn=>v n ((L n).mp hn)) ?_;refine q _ ((g2.trans Gr.push).trans Gr.push) _ ?_;rw[gZ];constructor
   .intro h
    exact⟨rs,rfl,λr j=>(t r j).1,λr j=>(t r j).2,by rw[h];exact J,s⟩
   .rintro ⟨F,G,u⟩
    have G:rs=F:=Fg G;subst G;exact(pw_eq J u.up L).symm
 |exc c=>cases hk
 |ref r=>
  rcases k9 hk with e|e;all_goals
   conv=>whnf
   rw[e];exact l λxs h=>by cases h
 |_=>exact l λxs h=>by cases h
theorem FG(T:TopD K mg "check_are_weights" uQ jK){a:Addr}(d:mg "NoWeights"=some (.ref a))(e:excIn K a jO "ValueError.__new__"=true)
  (c:aj P w K mg base 3 "is_weights" jd (ak mg 1 wB)):aj P w K mg base 4 "check_are_weights" jK (ak mg 1 wj):=by
 refine bC T BF λi j k n nd=>⟨_,(aA (aX (bP (bQ (dL c i k (aa (vr 0) af)))) (aA (mH j rfl d e (aa aN af))) aY)),λds A R h o=>?_⟩;obtain⟨x,rfl,hk,f,l,m⟩:=h;refine⟨rfl,x,rfl,hk,f,λp g1 b g=>?_⟩;cases b with
 |true=>exact l (g.mp rfl) _ g1
 |false=>exact⟨by decide,m (λh=>by cases g.mpr h) _ g1⟩
theorem zR:Nm "a":=⟨by decide+kernel,by decide+kernel,by decide+kernel⟩
theorem zS:Nm "b":=⟨by decide+kernel,by decide+kernel,by decide+kernel⟩
theorem IU:Nm "c":=⟨by decide+kernel,by decide+kernel,by decide+kernel⟩
theorem IY:Nm "x":=⟨by decide+kernel,by decide+kernel,by decide+kernel⟩
theorem IV:Nm "kk":=⟨by decide+kernel,by decide+kernel,by decide+kernel⟩
theorem IZ:∀x∈(["a"]:List Str),Nm x:=λx h=>by
 rw[bV.mp h];exact zR
theorem I0:∀x∈(["a","b"]:List Str),Nm x:=λx h=>by
 rcases aW.mp h with e|h
 .rw[e]
  exact zR
 rw[bV.mp h];exact zS
theorem I8:∀x∈(["x","b","kk","c"]:List Str),Nm x:=λx h=>by
 rcases aW.mp h with e|h
 .rw[e]
  exact IY
 rcases aW.mp h with e|h
 .rw[e]
  exact zS
 rcases aW.mp h with e|h
 .rw[e]
  exact IV
 rw[bV.mp h];exact IU
theorem Gs(T:TopD K mg "_law_some" Bb qg)(f:aj P w K mg base 3 "_law_draw" jc (ak mg 3 j_))(j:aj P w K mg base 4 "_law_pick" k_ (ak mg 3 lZ))(FM:∀d,aj P w K mg base (d+4) "_law_mobile" qd (ak mg 4 (wL d)))(b:aj P w K mg base 9 "_law_fresh" qa (ak mg 2 (wo 8)))(dd:Nat)(s:dd<=4):aj P w K mg base 10 "_law_some" qg (ak mg 3 (wX dd)):=by
 have a:=(FM (dd+1)).mono (show dd+1+4<=9 by omega);refine bC T Lp λo hR hx Q nd=>⟨_,(aD (dS 3 nd (dL a o hx (aa (vr 0) (aa (vr 1) (aa (dL j o hx (aa (vr 0) (aa (vr 1) (aa (eH (aa (eH (aa aN af)) (aa (eH (aa aN (aa aN af))) (aa (eH (aa aN (aa aN (aa aN (aa aN af))))) af)))) af)))) (aa (vr 2) af))))))
  (aA (aG (yb (cJ Q (dL f o hx (aa (vr 0) (aa (vr 1) (aa ai af)))) ai) (vr 3) (dL b o hx (aa (vr 3) (aa (eH af) af))))))),λds A R h hl=>?_⟩
 obtain⟨ns,t,n,rfl,H,hn,q⟩:=h;obtain⟨S,u,U⟩:=id H;have l0:=kZ u;have V:=D4 s;have W:(1:Nat)<=sizeLine:=by decide
 have X:(2:Nat)<=sizeLine:=by decide
 have Y:(3:Nat)<=sizeLine:=by decide
 have s4:(4:Nat)<=sizeLine:=by decide
 refine⟨W,X,s4,Y,rfl,ns,t,_,_,n,rfl,?_,aT,by simp,((((H.gr Gr.push).gr Gr.push).gr Gr.push).gr Gr.push),by omega,λx I hx p t1=>?_⟩
 .simp;omega
 have g:Gr A (A++[C.lst [D.str "a"]]++[C.lst [D.str "a",D.str "b"]]++[C.lst [D.str "x",D.str "b",D.str "kk",D.str "c"]]++[C.lst [D.ref A.length,D.ref (A++[C.lst [D.str "a"]]).length,D.ref (A++[C.lst [D.str "a"]]++[C.lst [D.str "a",D.str "b"]]).length]]):=((Gr.push.trans Gr.push).trans Gr.push).trans Gr.push;have e1:(A++[C.lst [D.str "a"]]).length=A.length+1:=by simp
 have e2:(A++[C.lst [D.str "a"]]++[C.lst [D.str "a",D.str "b"]]).length=A.length+2:=by simp
 obtain⟨r,k,rfl,v,h1,y,z⟩:∃(r:Nat) (k:List Str),x=.ref r/\r≠t/\I[r]?=some (.lst (k.map D.str))/\k≠[]/\∀x∈k,Nm x:=by
  rcases aW.mp hx with e|hx
  .exact⟨_,["a"],e,by omega,p _ _ (by omega) (getElem?_push (getElem?_push (getElem?_push aT))),by simp,IZ⟩
  rcases aW.mp hx with e|hx
  .exact⟨_,["a","b"],e,by omega,p _ _ (by omega) (getElem?_push (getElem?_push aT)),by simp,I0⟩
  .exact⟨_,["x","b","kk","c"],bV.mp hx,by omega,p _ _ (by omega) (getElem?_push aT),by simp,I8⟩
 have B:cU t A I:=g.but.trans p;refine⟨rfl,ns,t,r,k,n+1,show [D.fl ns,D.ref t,D.ref r,D.int (dd:Nat)]=_ by rw[show(((dd+1:Nat):Int) - 1)=(dd:Nat) by omega],by omega,v,h1,y,z,t1,by omega,λm A2 J dm _ L=>?_⟩;refine⟨rfl,ns,t,2,n+1+cst (dd+1),rfl,L.tw,by omega,by decide,λi M _ _ Z t3=>?_⟩;have E:Dr t A M n 200:=⟨(B.trans L.but).trans Z,t3.mono (by omega)⟩;refine cD (λc=>q m M J (by omega) E) (λc=>⟨c5 _,rfl,m,_,0,rfl,J,by omega,by decide,⟨[],aT,aI _⟩,by decide,λm' A4 F NO N=>?_⟩);refine q m' A4 F (by omega) ?_;obtain⟨G,l,N5⟩:=t3;have l3:=kZ l;refine⟨λq c O h=>N.but q c ?_ (getElem?_push (E.but q c O h)),?_⟩
 .have:=kZ (E.but q c O h)
  omega
 .exact⟨G,N.but t _ (by omega) (getElem?_push l),by omega⟩
theorem Gd(T:TopD K mg "_law_leaves" AW qb):∀d,aj P w K mg base (d+1) "_law_leaves" qb (ak mg 1 (wH d)):=by
 intro d;induction d with
 |zero=>
  refine fQ T λds A R RE h=>?_;obtain⟨v,⟨m,_,h,_⟩,_⟩:=h;omega
 |succ d c=>
  refine eN T Lk rfl (by decide) λN RE f j B outer s H E g o i ds A R h p=>?_;have e:=g.units;refine⟨_,(aA (aG (yb (cJ e (dX e (vr 0) ai) aN) (eH (aa (dX e (vr 0) ai) af)) (c8 (dL c g i (aa (dX e (vr 0) ai) af)) (dL c g i (aa (dX e (vr 0) ai) af)))))),?_⟩;obtain⟨v,⟨m,rfl,hd,t,rfl⟩,q⟩:=h;cases m with
  |wt n=>exact⟨show 1<=sizeLine by decide,q _ _ Gr.push aT⟩
  |ay l r a b=>
   have k:max a.deep b.deep+1<d+1:=hd;refine⟨rfl,_,⟨a,rfl,by omega,by omega,rfl⟩,λu x g1 h1=>?_⟩;refine⟨rfl,_,⟨b,rfl,by omega,by omega,rfl⟩,λy z g2 h2=>?_⟩;have C:=aS.iH a;have D:=aS.iH b;have F:2 ^ a.deep<=2 ^ 8:=dc (by decide) (by omega);have p2:2 ^ b.deep<=2 ^ 8:=dc (by decide) (by omega);have G:(512:Nat)<=sizeLine:=by decide
   refine kB (g2.get h1) h2 (by rw[bB,bB];omega) (q _ _ ((g1.trans g2).trans Gr.push) ?_);rw[aT];simp[aS.names]
theorem Gj(T:TopD K mg "_law_names" AZ qe)(b:mg "sorted"=none)(c:mg "set"=none)(a:aj P w K mg base 9 "_law_leaves" qb (ak mg 1 (wH 8))):aj P w K mg base 10 "_law_names" qe (ak mg 1 wQ):=by
 refine bC T Lm λd i e j nd=>⟨_,(aA (aG (sR b c rfl (aa (dL a d e (aa (vr 0) af)) af)))),λds A R h k=>?_⟩;obtain⟨m,rfl,hd,q⟩:=h;refine⟨rfl,_,⟨m,rfl,by omega,by omega,rfl⟩,λl n g1 h1=>?_⟩;have o:=aS.iH m;have p:2 ^ m.deep<=2 ^ 5:=dc (by decide) hd;refine u7 (ss:=m.names) h1 (by have:=strs_map id m.names;simpa using this) (by omega) λys f g=>?_;exact q _ _ ys (g1.trans Gr.push) g1.len aT f g
end My
namespace L2
theorem iu.Jl{P:Program}{w:World}{K:Frag}{mg:au}{base:Heap}{x:Str}{st:Stmt}{N ps:List Str}{k:Nat}{sp:Sp}{f:Addr}{fd:FuncData}(F:iu K x x st f fd)(S:aR N ps (aH st))(len:∀b H Q E,sp b H Q E->b.length=ps.length)
  (c:∀(f:Addr) (a:Value) (A:Around) (outer:List Env) (s:Shared) (H:Hp) (b:List V) (Q:VK) (E:XK),ck k (A.deeper (envOfC x (aH st) s.heap.objs.size f a))->sp b H Q E->
   ∃t,cj (bL (a_ P w) P w K mg base N x (aH st) f a A outer s H E) (e9 st) t/\t {nx:=λ_ H'=>Q .aM H',rt:=Q} (start N b) H):dH P w K mg base (a_ P w) (k+1) f fd ps sp:=by
 obtain⟨i,j,kV,doc,pm,an,a,ct,g,rfl,lk,d⟩:=F.ex;exact yN lk d S len λA outer s H b Q E h e=>c f a A outer s H b Q E h e
end L2
namespace DP
open L2 MA
theorem GG{P:Program}{w:World}{K:Frag}{mg:au}{base:Heap}{x:Str}{st:Stmt}{Nm ps:List Str}{k n:Nat}{S:Ct}{y:Addr}{fd:FuncData}(T:iu K x x st y fd)(Sc:aR Nm ps (aH st))(hn:ps.length=n)(X:ps.length<=Nm.length)
  (j:∀(N:En) (RE:DX) (f:Addr) (g:Value) (B:Around) (outer:List Env) (s:Shared) (H:Hp) (E:XK),ck k (bL (a_ P w) P w K mg base Nm x (aH st) f g B outer s H E).A->
   Raises (bL (a_ P w) P w K mg base Nm x (aH st) f g B outer s H E) (EL mg N RE)->Passes (a_ P w) (bL (a_ P w) P w K mg base Nm x (aH st) f g B outer s H E) (EL mg N RE)->
   ∀ds A R,S ds A R RE->ds.length=n->∃m,cj (bL (a_ P w) P w K mg base Nm x (aH st) f g B outer s H E) (e9 st) (b7 mg N m)/\m {nx:=λ_ A'=>R .aM A',rt:=R} (iN (Nm.length - n) ds) A):dH P w K mg base (a_ P w) (k+1) y fd ps (ak mg n S):=by
 refine T.Jl Sc (λG H Q E h=> ?_) λf g A outer s H G Q E J h=> ?_
 .obtain⟨A,ι,ds,R,RE,t,_,o,_⟩:=h
  rw[<-aq.length o,t,hn]
 .obtain⟨p,l,ds,R,RE,t,ra,o,L,D,M⟩:=h
  have F:∀C a H',EL mg ⟨p,l,H⟩ RE C a H'->E C none H':=λC a H' z=>by
   obtain⟨c,A',ι',⟨b,rfl,hc⟩,ex,r,q⟩:=z
   exact M c A' ι' H' b q hc ex r
  obtain⟨m,O,U⟩:=j ⟨p,l,H⟩ RE f g A outer s H E J
   (λpins σ H1 u e h' C args I V z=>AF pins σ H1 u e h' C args I V (F _ _ _ z))
   (λpins σ H1 u e s' I z=>z8 pins σ H1 u e s' I (by
    obtain⟨a,C,H',h1,h2,h3⟩:=z
    exact⟨a,C,H',h1,h2,F _ _ _ h3⟩)) ds p R L t
  have W:=aq.length o
  refine⟨_,O,p,l,_,_,⟨ra,⟨?_,λi d q=> ?_⟩,ra.refl⟩,U,⟨λτ A' ι' σ H' q e r _=>D _ A' ι' H' _ q e r rfl,D,λ_ _ _ _ _ q _ _ _=>q.elim,λ_ _ _ _ _ q _ _ _=>q.elim⟩⟩
  .simp[iN,L2.start]
   omega
  .obtain⟨v,h1,h2⟩:=aq.get o (t9 ds _ i d q)
   refine⟨v,?_,h2⟩
   have hi:=(cT.mp h1).1
   unfold L2.start
   rw[ic (by simpa using hi),dP,h1]
   rfl
def wC:Ct:=λds A R _=>∃ns,ds=[.fl ns]/\∀A',R (.bl true) A'
def ly:Sp:=λvs H Q _=>∃(a:Addr) (o:Obj) (ns:List Int),vs=[.ref a]/\H a=some (.b5 o (.lst (ns.map V.int)))/\∀H',Q (.bl true) H'
theorem L7{mg:au}{b:List V}{H:Hp}{Q:VK}{E:XK}(h:ly b H Q E):ak mg 1 wC b H Q E:=by
 obtain⟨a,o,ns,rfl,h,q⟩:=h;refine⟨[],λ_=>a,[.fl ns],λv _=>v=.bl true,λ_ _=>False,rfl,⟨λr c h=>by simp at h,λr s d=>by simp at d⟩,⟨_,[],rfl,⟨a,o,rfl,h⟩,rfl⟩,⟨ns,rfl,λ_=>rfl⟩,λv A' ι' H' u e _ _ r=>?_,λ_ _ _ _ _ z=>z.elim⟩;subst e;cases r;exact q _
def jG(o:Obj):Bool:=match o.cls with
 |.type t=> !(decide (t="list"))
 |_=>true
theorem I_{K:Frag}(h:K.all (λp=>jG p.2)=true){a:Addr}{o:Obj}(e:K.lookup a=some o):jG o=true:=by
 induction K with
 |nil=>cases e
 |cons p r b=>
  have h':jG p.2=true/\List.all r (λp=>jG p.2)=true:=by simpa using h
  rw[List.lookup] at e;split at e
  .cases e
   exact h'.1
  .exact b h'.2 e
theorem GH{K:Frag}(b:K.all (λp=>jG p.2)=true){H:Hp}{a:Addr}{ns:List Int}(d:ow H)(f:aZ K H a (ns.map V.int)):ly [.ref a] H (λv _=>v=.bl true) λ_ _ _=>False:=by
 rcases f with (e|⟨o,e⟩)|⟨o,its,n,e,c,_⟩
 .rcases d a with z|⟨o,xs,z⟩
  .rw[z] at e;cases e
  .rw[z] at e;cases e
 .exact⟨a,o,ns,rfl,e,λ_=>rfl⟩
 .have:=I_ b e
  unfold jG at this;rw[c] at this;simp at this
theorem pw_len:∀(ys ss:List Str),ys.Pairwise strLt->(∀x∈ys,x∈ss)->ys.length<=ss.length
 |[],_,_,_=>c5 _
 |y::r,ss,d,a=>by
  have p:=lG.mp d;have b:=a y (bJ ..);have:=pw_len r (ss.erase y) p.2 λx c=>(List.mem_erase_of_ne (B5 (p.1 x c)).symm).mpr (a x (bE _ c));rw[List.length_erase_of_mem b] at this;have:=List.length_pos_of_mem b;simp;omega
theorem lq:∀m:M,eU (enc m)=true
 |.wt n=>by simp[enc,eU,ff]
 |.ay l r a b=>by simp[enc,eU,ff,lq a,lq b]
theorem K2:canLay0 (.str "rod")=true:=by decide+kernel
theorem Nk:canLay0 (.str "weight")=true:=by decide+kernel
theorem kX:∀m:M,(∀n∈m.names,Nm n)->(toQ (enc m)).canLay0=true
 |.wt n,h=>by
  have h1:=(h n (by simp[aS.names])).ok;have h2:=Nk;simp only[enc,toQ,aU];simp only[canLay0,canLayAll0] at h1 h2 ⊢;simp[h1,h2]
 |.ay l r a b,h=>by
  have h1:=kX a λn hn=>h n (by simp[aS.names,hn]);have h2:=kX b λn hn=>h n (by simp[aS.names,hn]);have h3:=K2;simp only[enc,toQ,aU];simp only[canLay0] at h3;simp[canLay0,canLayAll0,h1,h2,h3]
theorem o5:∀m:M,(toQ (enc m)).depth<=m.deep+1
 |.wt n=>by
  simp only[enc,toQ,aU];simp[PyData.depth,depthAll]
 |.ay l r a b=>by
  have h1:=o5 a;have h2:=o5 b;simp only[enc,toQ,aU];simp[PyData.depth,depthAll,aS.deep];omega
theorem Cf{A:Ar}:∀m:M,bX A (enc m)=toQ (enc m)
 |.wt n=>rfl
 |.ay l r a b=>rfl
theorem zY{A:Ar}:∀m:M,fS A (enc m)=eU (enc m)
 |.wt n=>rfl
 |.ay l r a b=>rfl
def fU:M->Str->List (Str×M)
 |.wt _,_=>[]
 |.ay l r a b,w=>(w,.ay l r a b)::(fU a (w++"l")++fU b (w++"r"))
def uN(p:Str×M):D:=.tup [.str p.1,enc p.2]
theorem qD:∀(m:M) (w:Str),(fU m w).length+1<=2 ^ m.deep
 |.wt n,w=>by simp[fU,aS.deep]
 |.ay l r a b,w=>by
  have h1:=qD a (w++"l");have h2:=qD b (w++"r");have c:2 ^ a.deep<=2 ^ max a.deep b.deep:=dc (by decide) (by omega);have d:2 ^ b.deep<=2 ^ max a.deep b.deep:=dc (by decide) (by omega);show(fU a (w++"l")++fU b (w++"r")).length+1+1<=2 ^ (max a.deep b.deep+1);rw[jS,b_];omega
def Dj(dom:List D->List D->Prop):Ct:=λds A R _=>∃v,dom ds v/\∀A' r,Gr A A'->A'[r]?=some (.lst v)->A.length<=r->R (.ref r) A'
abbrev wV(d:Nat):Ct:=Dj λds v=>∃m w,ds=[enc m,.str w]/\m.deep<d/\w.length+d<=100/\d<=8/\v=(fU m w).map uN
end DP
namespace My
open L2 DP MA
theorem Gp(T:TopD K mg "_law_rods" Ba qf):∀d,aj P w K mg base (d+1) "_law_rods" qf (ak mg 2 (wV d)):=by
 intro d;induction d with
 |zero=>
  refine fQ T λds A R RE h=>?_;obtain⟨v,⟨m,w,_,h,_⟩,_⟩:=h;omega
 |succ d c=>
  refine eN T Lo rfl (by decide) λN RE f k B outer s H E g t i ds A R h u=>?_;have e:=g.units;refine⟨_,(aD (aX (cJ e (dX e (vr 0) ai) aN) (aA (aG (eH af))) aY)
  (aA (aG (c8 (c8 (eH (aa (c9 (aa (vr 1) (aa (vr 0) af))) af)) (dL c g i (aa (dX e (vr 0) ai) (aa (c8 (vr 1) aN) af)))) (dL c g i (aa (dX e (vr 0) ai) (aa (c8 (vr 1) aN) af))))))),?_⟩
  obtain⟨v,⟨m,w,rfl,hd,z,C,rfl⟩,q⟩:=h;have D:(100:Nat)<=sizeLine:=by decide
  cases m with
  |wt n=>exact⟨c5 _,q _ _ Gr.push aT (aI _)⟩
  |ay l r a b=>
   have o:max a.deep b.deep+1<d+1:=hd;have F:("l":Str).length=1:=by decide+kernel
   have G:("r":Str).length=1:=by decide+kernel
   have al:∀x y:Str,(x++y).length=x.length+y.length:=λx y=>lI;have I:=qD a (w++"l");have J:=qD b (w++"r");have L:2 ^ a.deep<=2 ^ 8:=dc (by decide) (by omega);have p2:2 ^ b.deep<=2 ^ 8:=dc (by decide) (by omega);have M:(1024:Nat)<=sizeLine:=by decide
   refine⟨show 2<=sizeLine by decide,show 1<=sizeLine by decide,by omega,rfl,_,⟨a,_,rfl,by omega,by rw[al];omega,by omega,rfl⟩,λO Q g1 h1 _=>?_⟩;refine kB (g1.get aT) h1 (by simp;omega) ?_;refine⟨by omega,rfl,_,⟨b,_,rfl,by omega,by rw[al];omega,by omega,rfl⟩,λp S g2 h2 _=>?_⟩;have j:Gr A p:=((Gr.push.trans g1).trans Gr.push).trans g2;refine kB (g2.get aT) h2 (by simp;omega) (q _ _ (j.trans Gr.push) ?_ j.len);rw[aT];simp[fU,uN,enc]
end My
namespace DP
open L2 MA
def wR:Ct:=λds A R _=>∃l r' a b r rs,ds=[enc (.ay l r' a b),.ref r]/\A[r]?=some (.dct (d_ rs))/\1<=l/\l<=9/\1<=r'/\r'<=9/\Bk rs a/\Bk rs b/\a.deep<=6/\b.deep<=6/\∀A',Gr A A'->R (.tup [.int (l*ld (val rs) a),.int (r'*ld (val rs) b)]) A'
def wY(d:Nat):Ct:=λds A R _=>∃m w r rs,ds=[enc m,.str w,.ref r]/\A[r]?=some (.dct (d_ rs))/\Wf m/\Bk rs m/\m.deep<d/\d<=6/\w.length+d<=100/\∀A' q,Gr A A'->A'[q]?=some (.lst ((fh (val rs) m w).map eS))->A.length<=q->R (.ref q) A'
def w4:Ct:=λds A R _=>∃m rs,ds=[enc m,eL rs]/\Wf m/\Bk rs m/\m.deep<=5/\∀A' q,Gr A A'->A'[q]?=some (.lst ((fh (val rs) m "").map eS))->A.length<=q->R (.ref q) A'
def Wy(w:Str):Prop:=∀c∈w.cps.toList,c=108\/c=114
theorem kC(x y:Str):(x++y).cps.toList=x.cps.toList++y.cps.toList:=ek
theorem Wy.nil:Wy "":=λc h=>by
 have e:("":Str).cps.toList=[]:=by decide+kernel
 rw[e] at h;cases h
theorem DZ:("l":Str).cps.toList=[108]:=by decide+kernel
theorem D0:("r":Str).cps.toList=[114]:=by decide+kernel
theorem Wy.l{w:Str}(h:Wy w):Wy (w++"l"):=λc hc=>by
 rw[kC,DZ] at hc;rcases bF.mp hc with h'|h'
 .exact h c h'
 .exact .inl (bV.mp h')
theorem Wy.r{w:Str}(h:Wy w):Wy (w++"r"):=λc hc=>by
 rw[kC,D0] at hc;rcases bF.mp hc with h'|h'
 .exact h c h'
 .exact .inr (bV.mp h')
theorem Wy.ok{w:Str}(h:Wy w):canLay0 (.str w)=true:=by
 have e:w.cps.all (λc=>decide (c<0x110000))=true:=by
  rw[<-Array.all_toList,ji];intro c hc;have:=h c hc;exact dN (by omega)
 simpa[canLay0,strOk] using e
theorem Ib:canLay0 (.str "left")=true:=by decide+kernel
theorem K1:canLay0 (.str "right")=true:=by decide+kernel
theorem vm(f:Str->Int):∀(m:M) (w:Str),Wy w->∀p∈fh f m w,Wy p.1/\(p.2="left"\/p.2="right")
 |.wt _,_,_,p,h=>by cases h
 |.ay l r a b,w,c,p,h=>by
  have h:p∈hr2 w (l*ld f a) (r*ld f b)++fh f a (w++"l")++fh f b (w++"r"):=h;rcases bF.mp h with h|h
  .rcases bF.mp h with h|h
   .unfold hr2 at h
    split at h
    .rw[bV.mp h];exact⟨c,.inl rfl⟩
    .split at h
     .rw[bV.mp h];exact⟨c,.inr rfl⟩
     .cases h
   .exact vm f a _ c.l p h
  .exact vm f b _ c.r p h
theorem Ag:∀ps:List (Str×Str),ff (ps.map eS)=true
 |[]=>rfl
 |p::r=>by simp[ff,eS,eU,Ag r]
theorem zx:∀ps:List (Str×Str),(∀p∈ps,canLay0 (.str p.1)=true/\canLay0 (.str p.2)=true)->canLayAll0 (aU (ps.map eS))=true
 |[],_=>by simp[aU,canLayAll0]
 |p::r,h=>by
  have h1:=h p (bJ ..);have h2:=zx r λq a=>h q (bE _ a);simp only[eB,aU,eS,toQ,canLayAll0,canLay0] at h1 h2 ⊢;simp[h1.1,h1.2,h2]
theorem H_{f:Str->Int}{m:M}:canLayAll0 (aU ((fh f m "").map eS))=true:=zx _ λp a=>by
 obtain⟨h1,h2⟩:=vm f m "" .nil p a;refine⟨h1.ok,?_⟩;rcases h2 with e|e<;>rw[e]
 .exact Ib
 .exact K1
end DP
namespace My
open L2 DP MA
theorem Gm(T:TopD K mg "pulls" Bq qq)(c:aj P w K mg base 10 "load_below" ng (ak mg 2 (rY 6))):aj P w K mg base 11 "pulls" qq (ak mg 2 wR):=by
 refine bC T LA λe m f d nd=>⟨_,(aA (aG (c9 (aa (kF (dX d (vr 0) ai) (dL c e f (aa (dX d (vr 0) ai) (aa (vr 1) af)))) (aa (kF (dX d (vr 0) ai) (dL c e f (aa (dX d (vr 0) ai) (aa (vr 1) af)))) af))))),λds A R h n=>?_⟩;obtain⟨l,r',a,b,r,rs,rfl,g,h1,h2,h3,o,i,j,k,db,q⟩:=h;refine⟨rfl,a,r,rs,rfl,g,i.ok,k,i.nm,λp g1=>⟨.inl ⟨by omega,by omega⟩,?_⟩⟩;refine⟨rfl,b,r,rs,rfl,g1.get g,j.ok,db,j.nm,λs g2=>⟨.inl ⟨by omega,by omega⟩,?_⟩⟩;exact⟨show 2<=sizeLine by decide,q _ (g1.trans g2)⟩
theorem Gu(T:TopD K mg "tips_below" Bu qv)(i:aj P w K mg base 11 "pulls" qq (ak mg 2 wR)):∀d,aj P w K mg base (d+11) "tips_below" qv (ak mg 3 (wY d)):=by
 intro d;induction d with
 |zero=>
  refine fQ T λds A R RE h=>?_;obtain⟨m,w,r,rs,_,_,_,_,h,_⟩:=h;omega
 |succ d e=>
  refine eN T BR rfl (by decide) λN RE f O B outer s H E u Z z ds A R h hl=>?_;have j:=u.units;have nd:=BR.nd;refine⟨_,(aD (aX (cJ j (dX j (vr 0) ai) aN) (aA (aG (eH af))) aY)
  (aD (dS 3 nd (dL i u z (aa (vr 0) (aa (vr 2) af))))
  (aD (dS 4 nd (eH af))
  (aD (aX (MW (dX j (vr 3) ai) (dX j (vr 3) ai)) (aA (e_ (o4 q8 qY rG m5 oY (vr 4) (aa (c9 (aa (vr 1) (aa aN af))) af)))) aY)
  (aD (aX (vh (dX j (vr 3) ai) (dX j (vr 3) ai)) (aA (e_ (o4 q8 qY rG m5 oY (vr 4) (aa (c9 (aa (vr 1) (aa aN af))) af)))) aY)
  (aA (aG (c8 (c8 (vr 4) (dL e u z (aa (dX j (vr 0) ai) (aa (c8 (vr 1) aN) (aa (vr 2) af))))) (dL e u z (aa (dX j (vr 0) ai) (aa (c8 (vr 1) aN) (aa (vr 2) af)))))))))))),?_⟩
  obtain⟨m,w,r,rs,rfl,J,F,hk,hd,h6,G,q⟩:=h;have hs:(1000:Nat)<=sizeLine:=by decide
  cases m with
  |wt n=>exact⟨c5 _,q _ _ Gr.push aT (aI _)⟩
  |ay l r' a b=>
   have Q:max a.deep b.deep+1<d+1:=hd;have I:=F.arms;obtain⟨S,U,V,W,_,_⟩:=I;have ll:("l":Str).length=1:=by decide+kernel
   have lr:("r":Str).length=1:=by decide+kernel
   have al:∀x y:Str,(x++y).length=x.length+y.length:=λx y=>lI;refine⟨rfl,l,r',a,b,r,rs,rfl,J,S,U,V,W,hk.left,hk.right,by omega,by omega,λg g1=>?_⟩;refine⟨c5 _,?_⟩;have n0:=ze w (l*ld (val rs) a) (r'*ld (val rs) b);have n1:=qQ (val rs) a (w++"l");have n2:=qQ (val rs) b (w++"r");have p1:2 ^ a.deep<=2 ^ 6:=dc (by decide) (by omega);have p2:2 ^ b.deep<=2 ^ 6:=dc (by decide) (by omega);by_cases k:r'*ld (val rs) b<l*ld (val rs) a;case' pos=>
    have o:hr2 w (l*ld (val rs) a) (r'*ld (val rs) b)=[(w,("left":Str))]:=by unfold hr2;rw[ao k]
    refine cD (λ_=>?_) (λc=>absurd k c);refine⟨pL aT,show 2<=sizeLine by decide,oG aT (by decide) ?_⟩;have h2:=get_set (ys:=[]++[D.tup [.str w,.str "left"]]) (aT (A:=g) (c:=C.lst []));have g2:Gr g ((g++[C.lst []]).set g.length (.lst ([]++[D.tup [.str w,.str "left"]]))):=Gr.set Gr.push (aI _);refine cD (λc=>absurd k (by omega)) (λ_=>?_);generalize (g++[C.lst []]).set g.length (.lst ([]++[D.tup [.str w,.str "left"]]))=p at*
    have h2:p[g.length]?=some (.lst ((hr2 w (l*ld (val rs) a) (r'*ld (val rs) b)).map eS)):=by rw[h2,o];rfl
   case' neg=>
    refine cD (λc=>absurd c k) (λ_=>?_);by_cases v:l*ld (val rs) a<r'*ld (val rs) b;case' pos=>
     have o:hr2 w (l*ld (val rs) a) (r'*ld (val rs) b)=[(w,("right":Str))]:=by unfold hr2;rw[av k,ao v]
     refine cD (λ_=>?_) (λc=>absurd v c);refine⟨pL aT,show 2<=sizeLine by decide,oG aT (by decide) ?_⟩;have h2:=get_set (ys:=[]++[D.tup [.str w,.str "right"]]) (aT (A:=g) (c:=C.lst []));have g2:Gr g ((g++[C.lst []]).set g.length (.lst ([]++[D.tup [.str w,.str "right"]]))):=Gr.set Gr.push (aI _);generalize (g++[C.lst []]).set g.length (.lst ([]++[D.tup [.str w,.str "right"]]))=p at*
     have h2:p[g.length]?=some (.lst ((hr2 w (l*ld (val rs) a) (r'*ld (val rs) b)).map eS)):=by rw[h2,o];rfl
    case' neg=>
     have o:hr2 w (l*ld (val rs) a) (r'*ld (val rs) b)=[]:=by unfold hr2;rw[av k,av v]
     refine cD (λc=>absurd c v) (λ_=>?_);have h2:=aT (A:=g) (c:=C.lst []);have g2:Gr g (g++[C.lst []]):=Gr.push;generalize g++[C.lst []]=p at*
     have h2:p[g.length]?=some (.lst ((hr2 w (l*ld (val rs) a) (r'*ld (val rs) b)).map eS)):=by rw[h2,o];rfl
   all_goals
    have t:=(g1.trans g2).get J;refine⟨by omega,rfl,a,_,r,rs,rfl,t,F.left,hk.left,by omega,by omega,by rw[al];omega,λA3 q3 g3 h3 _=>?_⟩;refine kB (g3.get h2) h3 (by simp;omega) ?_;refine⟨by omega,rfl,b,_,r,rs,rfl,getElem?_push (g3.get t),F.right,hk.right,by omega,by omega,by rw[al];omega,λX q4 L Y _=>?_⟩;refine kB (L.get aT) Y (by simp;omega) ?_;have M:Gr A X:=(((g1.trans g2).trans g3).trans Gr.push).trans L;refine q _ _ (M.trans Gr.push) ?_ M.len;rw[aT];simp[fh]
theorem Gv(T:TopD K mg "tips" Bt qu)(d:mg "dict"=none)(b:aj P w K mg base 9 "check_mobile" iI (ak mg 1 oz))(a:aj P w K mg base 10 "check_weights" m_ (ak mg 2 rV))(c:aj P w K mg base 17 "tips_below" qv (ak mg 3 (wY 6))):aj P w K mg base 18 "tips" qu (ak mg 2 w4):=by
 refine bC T LD λe k f l nd=>⟨_,(aD (e_ (dL b e f (aa (vr 0) af)))
  (aD (e_ (dL a e f (aa (vr 0) (aa (vr 1) af))))
  (aA (aG (dL c e f (aa (vr 0) (aa aN (aa (jy (sE rfl) sP d boot_dict (aa (vr 1) af)) af)))))))),λds A R h n=>?_⟩
 obtain⟨m,rs,rfl,i,hk,hd,q⟩:=h;refine⟨rfl,_,⟨m,rfl,i,hd,rfl⟩,λo g1=>?_⟩;refine⟨rfl,_,⟨m,rs,rfl,hk.ok,hd,hk.nm,rfl⟩,λp g2=>?_⟩;refine sV hk.ok ?_;have g:=(g1.trans g2).trans (Gr.push (T:=[C.dct (d_ rs)]));exact⟨rfl,m,_,_,rs,rfl,aT,i,hk,by omega,by omega,by decide+kernel,λr s g3 h3 j=>q _ _ (g.trans g3) h3 (cM g.len j)⟩
end My
namespace DP
open L2 MA
theorem yI:∀ns:List Int,eqvAll (ns.map PyData.int) (ns.map PyData.int)=true
 |[]=>by simp[eqvAll]
 |n::r=>by simp[eqvAll,PyData.eqv,yI r]
mutual
theorem Fz:∀d:D,PyData.eqv (toQ d) (toQ d)=true
 |.aM=>by simp[toQ,PyData.eqv]
 |.bl b=>by simp[toQ,PyData.eqv]
 |.int i=>by simp[toQ,PyData.eqv]
 |.str x=>by simp[toQ,PyData.eqv]
 |.tup xs=>by simp[toQ,PyData.eqv,s8 xs]
 |.ref r=>by simp[toQ,PyData.eqv]
 |.fl ns=>by simp[toQ,PyData.eqv,yI ns]
 |.exc c=>by simp[toQ,PyData.eqv]
theorem s8:∀xs:List D,eqvAll (aU xs) (aU xs)=true
 |[]=>by simp[aU,eqvAll]
 |d::r=>by simp[aU,eqvAll,Fz d,s8 r]
end
theorem IQ{A:Ar}{p q:Nat}{xs:List D}{R:DK}(h1:A[p]?=some (.lst xs))(h2:A[q]?=some (.lst xs))(c:ff xs=true)(d:canLayAll0 (aU xs)=true)(hd:(PyData.list (aU xs)).depth<=64)(k:R (.bl false) A):e8 true (.ref p) (.ref q) A R:=by
 unfold e8;have a:bX A (.ref p)=.list (aU xs):=by unfold bX;simp only[h1]
 have b:bX A (.ref q)=.list (aU xs):=by unfold bX;simp only[h2]
 have e:PyData.eqv (.list (aU xs)) (.list (aU xs))=true:=by simp[PyData.eqv,s8 xs]
 refine⟨?_,?_,?_,?_,?_,?_⟩
 .unfold fS;simp only[h1];exact c
 .unfold fS;simp only[h2];exact c
 .rw[a];simpa[canLay0] using d
 .rw[b];simpa[canLay0] using d
 .rw[a,b];omega
 .rw[a,b,e]
  exact k
theorem yi:∀ss:List Str,depthAll (aU (ss.map D.str))=0
 |[]=>by simp[aU,depthAll]
 |s::r=>by simp[aU,toQ,depthAll,PyData.depth,yi r]
theorem zy:∀ss:List Str,(∀s∈ss,canLay0 (.str s)=true)->canLayAll0 (aU (ss.map D.str))=true
 |[],_=>by simp[aU,canLayAll0]
 |s::r,h=>by
  have h1:=h s (bJ ..);have h2:=zy r λq a=>h q (bE _ a);simp only[eB,aU,toQ,canLayAll0,canLay0] at h1 h2 ⊢;simp[h1,h2]
abbrev w9:Ct:=SV λds v=>∃l r a b,ds=[enc (.ay l r a b)]/\v=enc (.ay r l b a)
def wF:Ct:=SV λds v=>∃m rs,ds=[enc m,eL rs]/\Wf m/\Bk rs m/\m.deep<=5/\v=.int (ld (val rs) m)
end DP
namespace My
open L2 DP MA
theorem Gx(T:TopD K mg "turned_rod" Bv qw):aj P w K mg base 1 "turned_rod" qw (ak mg 1 w9):=by
 refine bC T LF λd e f c nd=>⟨_,(aA (aG (c9 (aa aN (aa (dX c (vr 0) ai) (aa (dX c (vr 0) ai) (aa (dX c (vr 0) ai) (aa (dX c (vr 0) ai) af)))))))),λds A R h g=>?_⟩;obtain⟨v,⟨l,r,a,b,rfl,rfl⟩,q⟩:=h;exact⟨show 5<=sizeLine by decide,q _ Gr.refl⟩
theorem Ga(T:TopD K mg "load" s_load qm)(d:mg "dict"=none)(b:aj P w K mg base 9 "check_mobile" iI (ak mg 1 oz))(a:aj P w K mg base 10 "check_weights" m_ (ak mg 2 rV))(c:aj P w K mg base 10 "load_below" ng (ak mg 2 (rY 6))):aj P w K mg base 11 "load" qm (ak mg 2 wF):=by
 refine bC T Lx λe i f j nd=>⟨_,(aD (e_ (dL b e f (aa (vr 0) af)))
  (aD (e_ (dL a e f (aa (vr 0) (aa (vr 1) af))))
  (aA (aG (dL c e f (aa (vr 0) (aa (jy (sE rfl) sP d boot_dict (aa (vr 1) af)) af))))))),λds A R h k=>?_⟩
 obtain⟨v,⟨m,rs,rfl,g,hk,hd,rfl⟩,q⟩:=h;refine⟨rfl,_,⟨m,rfl,g,hd,rfl⟩,λl g1=>?_⟩;refine⟨rfl,_,⟨m,rs,rfl,hk.ok,hd,hk.nm,rfl⟩,λn g2=>?_⟩;refine sV hk.ok ?_;exact⟨rfl,m,_,rs,rfl,aT,hk.ok,by omega,hk.nm,λo g3=>q _ (((g1.trans g2).trans Gr.push).trans g3)⟩
end My
namespace DP
open L2 MA
def sS:∀x y:M,Decidable (x=y)
 |.wt a,.wt b=>if h:a=b then .isTrue (by rw[h]) else .isFalse λz=>h (by injection z)
 |.wt _,.ay _ _ _ _=>.isFalse λz=>by cases z
 |.ay _ _ _ _,.wt _=>.isFalse λz=>by cases z
 |.ay l r a b,.ay l' r' a' b'=>
  if h1:l=l' then if h2:r=r' then match sS a a',sS b b' with
   |.isTrue h3,.isTrue h4=>.isTrue (by rw[h1,h2,h3,h4])
   |.isFalse h3,_=>.isFalse λz=>h3 (by injection z)
   |_,.isFalse h4=>.isFalse λz=>h4 (by injection z)
  else .isFalse λz=>h2 (by injection z) else .isFalse λz=>h1 (by injection z)
instance:DecidableEq M:=sS
def cQ:M->M->Bool
 |.wt a,.wt b=>decide (a.cps.toList<b.cps.toList)
 |.wt _,.ay _ _ _ _=>false
 |.ay _ _ _ _,.wt _=>true
 |.ay l r a b,.ay l' r' a' b'=>if l=l' then (if r=r' then (if a=a' then (if b=b' then false else cQ b b') else cQ a a') else decide (r<r')) else decide (l<l')
theorem p6:∀m:M,dB (toQ (enc m))=true
 |.wt n=>by simp[enc,toQ,aU,dB,gn]
 |.ay l r a b=>by simp[enc,toQ,aU,dB,gn,p6 a,p6 b]
theorem toQ_inj:∀x y:M,toQ (enc x)=toQ (enc y)->x=y
 |.wt n,.wt m,h=>by simp[enc,toQ,aU] at h;rw[h]
 |.wt n,.ay _ _ _ _,h=>by simp[enc,toQ,aU] at h
 |.ay _ _ _ _,.wt n,h=>by simp[enc,toQ,aU] at h
 |.ay l r a b,.ay f r' c d,h=>by
  simp only[enc,toQ,aU,PyData.tuple.injEq,List.cons.injEq,PyData.int.injEq,true_and,and_true] at h;obtain⟨h1,h2,h3,e⟩:=h;rw[h1,h2,toQ_inj a c h3,toQ_inj b d e]
theorem yG(x y:M):PyData.eqv (toQ (enc x)) (toQ (enc y))=decide (x=y):=by
 rw[j3,yH _ _ (p6 x) (p6 y),gZ];exact⟨toQ_inj x y,λh=>by rw[h]⟩
theorem xQ{a b:Str}(h:a.cps.toList=b.cps.toList):a=b:=by
 obtain⟨⟨la⟩⟩:=a;obtain⟨⟨lb⟩⟩:=b;have:la=lb:=h;rw[this]
theorem Np:decide (("weight":Str).cps.toList<("rod":Str).cps.toList)=false:=by decide+kernel
theorem rw_lt:decide (("rod":Str).cps.toList<("weight":Str).cps.toList)=true:=by decide+kernel
theorem Fy(i j:Int):PyData.eqv (.int i) (.int j)=decide (i=j):=by
 rw[j3];simp[PyData.eqv]
theorem pe(i j:Str):PyData.eqv (.str i) (.str j)=decide (i=j):=by
 rw[j3];simp[PyData.eqv]
theorem uf:∀x y:M,ltQ (toQ (enc x)) (toQ (enc y))=some (cQ x y)
 |.wt n,.wt m=>by
  simp only[enc,toQ,aU,ltQ,fB,pe,decide_true];by_cases h:n=m
  .subst h
   simp[cQ]
  .simp[h,cQ]
 |.wt n,.ay _ _ _ _=>by
  simp only[enc,toQ,aU,ltQ,fB,pe];rw[dg (show ¬("weight":Str)="rod" by decide+kernel)];show some _=_;rw[Np];rfl
 |.ay _ _ _ _,.wt n=>by
  simp only[enc,toQ,aU,ltQ,fB,pe];rw[dg (show ¬("rod":Str)="weight" by decide+kernel)];show some _=_;rw[rw_lt];rfl
 |.ay l r a b,.ay f r' c d=>by
  have g:=uf a c;have i:=uf b d;simp only[enc,toQ,aU,ltQ,fB,pe,Fy,yG,decide_true,g,i,cQ];by_cases h1:l=f
  .by_cases h2:r=r'
   .by_cases h3:a=c
    .by_cases e:b=d
     .simp[h1,h2,h3,e]
     .simp[h1,h2,h3,e]
    .simp[h1,h2,h3]
   .simp[h1,h2]
  .simp[h1]
theorem ud:∀x y:M,cQ x y=true->cQ y x=false
 |.wt n,.wt m,h=>by
  simp only[cQ,gZ,lO] at h ⊢;exact List.lt_asymm h
 |.wt n,.ay _ _ _ _,h=>by simp[cQ] at h
 |.ay _ _ _ _,.wt n,h=>rfl
 |.ay l r a b,.ay f r' d e,h=>by
  have g:=ud a d;have i:=ud b e;simp only[cQ] at h ⊢;by_cases h1:l=f
  .subst h1
   by_cases h2:r=r'
   .subst h2
    by_cases h3:a=d
    .subst h3
     by_cases c:b=e
     .subst c;simp
     .simp[c,Ne.symm c] at h ⊢;exact i h
    .simp[h3,Ne.symm h3] at h ⊢;exact g h
   .simp[h2,Ne.symm h2] at h ⊢;omega
  .simp[h1,Ne.symm h1] at h ⊢;omega
theorem ue:∀x y:M,cQ x y=false->cQ y x=false->x=y
 |.wt n,.wt m,h,h'=>by
  simp only[cQ,lO] at h h';rw[xQ (le_antisymm (not_lt.mp h') (not_lt.mp h))]
 |.wt n,.ay _ _ _ _,h,h'=>by simp[cQ] at h'
 |.ay _ _ _ _,.wt n,h,_=>by simp[cQ] at h
 |.ay l r a b,.ay f r' d e,h,h'=>by
  have g:=ue a d;have i:=ue b e;simp only[cQ] at h h';by_cases h1:l=f
  .subst h1
   by_cases h2:r=r'
   .subst h2
    by_cases h3:a=d
    .subst h3
     by_cases c:b=e
     .rw[c]
     .simp[c,Ne.symm c] at h h';rw[i h h']
    .simp[h3,Ne.symm h3] at h h';exact absurd (g h h') h3
   .simp[h2,Ne.symm h2] at h h';omega
  .simp[h1,Ne.symm h1] at h h';omega
def fC(x y:M):M:=if cQ y x=true then y else x
theorem IB(x y:M):fC x y=fC y x:=by
 unfold fC;cases h:cQ y x with
 |true=>rw[ud y x h];simp
 |false=>
  cases h':cQ x y with
  |true=>simp
  |false=>simp[ue x y h' h]
theorem pY(x y:M):fC x y=x\/fC x y=y:=by
 unfold fC;split
 .exact .inr rfl
 .exact .inl rfl
def lst:M->M
 |.wt n=>.wt n
 |.ay l r a b=>fC (.ay l r (lst a) (lst b)) (.ay r l (lst b) (lst a))
theorem Ik(l r:Int)(a b:M):lst (.ay r l b a)=lst (.ay l r a b):=IB _ _
theorem mU:∀m:M,(lst m).names.Perm m.names
 |.wt n=>.refl _
 |.ay l r a b=>by
  show(fC (.ay l r (lst a) (lst b)) (.ay r l (lst b) (lst a))).names.Perm (a.names++b.names);rcases pY (.ay l r (lst a) (lst b)) (.ay r l (lst b) (lst a)) with h|h
  .rw[h];exact(mU a).append (mU b)
  .rw[h];exact((mU b).append (mU a)).trans iO
theorem jE:∀m:M,(lst m).deep=m.deep
 |.wt n=>rfl
 |.ay l r a b=>by
  show(fC (.ay l r (lst a) (lst b)) (.ay r l (lst b) (lst a))).deep=max a.deep b.deep+1;have c:=jE a;have d:=jE b;rcases pY (.ay l r (lst a) (lst b)) (.ay r l (lst b) (lst a)) with h|h
  .rw[h];show max (lst a).deep (lst b).deep+1=_;rw[c,d]
  .rw[h];show max (lst b).deep (lst a).deep+1=_;rw[c,d];omega
theorem mT:∀m:M,m.arms->(lst m).arms
 |.wt n,h=>h
 |.ay l r a b,h=>by
  obtain⟨e,f,g,i,c,d⟩:=h;show(fC (.ay l r (lst a) (lst b)) (.ay r l (lst b) (lst a))).arms;rcases pY (.ay l r (lst a) (lst b)) (.ay r l (lst b) (lst a)) with h|h
  .rw[h];exact⟨e,f,g,i,mT a c,mT b d⟩
  .rw[h];exact⟨g,i,e,f,mT b d,mT a c⟩
theorem ua{m:M}(h:Wf m):Wf (lst m):=⟨mT m h.arms,λn hn=>h.nm n ((mU m).mem_iff.mp hn)⟩
def gK:M->Nat
 |.wt _=>0
 |.ay _ _ a b=>gK a+gK b+1
theorem uO:∀(m:M) (w:Str),(fU m w).length=gK m
 |.wt n,w=>rfl
 |.ay l r a b,w=>by
  show((w,aS.ay l r a b)::(fU a (w++"l")++fU b (w++"r"))).length=_;rw[dZ,b_,uO a,uO b];rfl
theorem IC{x y:M}{A:Ar}{R:DK}(a:∀n∈x.names,Nm n)(b:∀n∈y.names,Nm n)(hd:x.deep<=50)(k:R (enc (fC x y)) A):pZ (enc x) (enc y) A R:=by
 unfold pZ;have:=o5 x;refine⟨lq x,lq y,kX x a,kX y b,by omega,cQ y x,uf y x,?_⟩;unfold fC at k;cases h:cQ y x with
 |true=>rw[h] at k;exact k
 |false=>rw[h] at k;exact k
theorem Fv{x y:M}{A:Ar}{R:DK}(a:∀n∈x.names,Nm n)(b:∀n∈y.names,Nm n)(hd:x.deep<=60)(k:R (.bl (decide (x=y))) A):e8 false (enc x) (enc y) A R:=by
 unfold e8;rw[Cf,Cf,zY,zY,lq,lq];have:=o5 x;refine⟨rfl,rfl,kX x a,kX y b,by omega,?_⟩;rw[yG];exact k
theorem yD{x y:M}{A:Ar}{R:DK}(a:∀n∈x.names,Nm n)(b:∀n∈y.names,Nm n)(hd:x.deep<=60)(k:R (.bl (decide (x=y))) A):kI (enc x) (enc y) A R:=by
 have h:=Fv a b hd k;cases x<;>cases y<;>exact h
def wD(d:Nat):Ct:=SV λds v=>∃m,ds=[enc m]/\Wf m/\m.deep<d/\d<=8/\v=enc (lst m)
def wG:Ct:=SV λds v=>∃m,ds=[enc m]/\Wf m/\m.deep<=5/\v=enc (lst m)
end DP
namespace My
open L2 DP MA
theorem F9(T:TopD K mg "least_below" Bh qk)(g:mg "min"=none)(e:aj P w K mg base 1 "turned_rod" qw (ak mg 1 w9)):∀d,aj P w K mg base (d+1) "least_below" qk (ak mg 1 (wD d)):=by
 intro d;induction d with
 |zero=>
  refine fQ T λds A R RE h=>?_;obtain⟨v,⟨m,_,_,h,_⟩,_⟩:=h;omega
 |succ d c=>
  refine eN T BP rfl (by decide) λN RE f p B outer s H E j u o ds A R h z=>?_;have i:=j.units;have nd:=BP.nd;refine⟨_,(aD (aX (cJ i (dX i (vr 0) ai) aN) (aA (aG (vr 0))) aY)
  (aD (dS 1 nd (c9 (aa aN (aa (dX i (vr 0) ai) (aa (dX i (vr 0) ai) (aa (dL c j o (aa (dX i (vr 0) ai) af)) (aa (dL c j o (aa (dX i (vr 0) ai) af)) af)))))))
  (aA (aG (bO (DI rfl i) EG g boot_min (aa (vr 1) (aa (dL e j o (aa (vr 1) af)) af))))))),?_⟩
  obtain⟨v,⟨m,rfl,k,hd,C,rfl⟩,q⟩:=h;cases m with
  |wt n=>exact q _ Gr.refl
  |ay l r a b=>
   have t:max a.deep b.deep+1<d+1:=hd;have wl:=ua k.left;have wr:=ua k.right;refine⟨rfl,_,⟨a,rfl,k.left,by omega,by omega,rfl⟩,λD g1=>?_⟩;refine⟨rfl,_,⟨b,rfl,k.right,by omega,by omega,rfl⟩,λF g2=>?_⟩;refine⟨show 5<=sizeLine by decide,?_⟩;refine⟨rfl,_,⟨l,r,lst a,lst b,rfl,rfl⟩,λG g3=>?_⟩;have I:=jE a;have db:=jE b;refine IC (x:=.ay l r (lst a) (lst b)) (y:=.ay r l (lst b) (lst a)) ?_ ?_ ?_ (q _ ((g1.trans g2).trans g3))
   .intro n hn
    rcases bF.mp (show n∈(lst a).names++(lst b).names from hn) with h|h
    .exact wl.nm n h
    .exact wr.nm n h
   .intro n hn
    rcases bF.mp (show n∈(lst b).names++(lst a).names from hn) with h|h
    .exact wr.nm n h
    .exact wl.nm n h
   .show max (lst a).deep (lst b).deep+1<=50
    omega
theorem Gb(T:TopD K mg "least_turned" Bj ql)(a:aj P w K mg base 9 "check_mobile" iI (ak mg 1 oz))(b:aj P w K mg base 8 "least_below" qk (ak mg 1 (wD 7))):aj P w K mg base 10 "least_turned" ql (ak mg 1 wG):=by
 refine bC T Lv λc f d g nd=>⟨_,(aD (e_ (dL a c d (aa (vr 0) af)))
  (aA (aG (dL b c d (aa (vr 0) af))))),λds A R h i=>?_⟩
 obtain⟨v,⟨m,rfl,e,hd,rfl⟩,q⟩:=h;refine⟨rfl,_,⟨m,rfl,e,hd,rfl⟩,λj g1=>?_⟩;exact⟨rfl,_,⟨m,rfl,e,by omega,by omega,rfl⟩,λk g2=>q _ (g1.trans g2)⟩
end My
namespace DP
open L2 MA
theorem Jk{A:Ar}{r:Str×Int}(h:Nm r.1):br A (cy r)=true:=by
 show(br A (.str r.1)&&(true&&true))=true;rw[zV h];rfl
theorem Jj{A:Ar}:∀{rs:List (Str×Int)},(∀r∈rs,Nm r.1)->br A (eL rs)=true:=λ {rs} h=>by
 show eT A (rs.map cy)=true;induction rs with
 |nil=>rfl
 |cons r rs a=>
  show(br A (cy r)&&eT A (rs.map cy))=true;rw[Jk (h r (bJ ..)),a λq b=>h q (bE _ b)];rfl
theorem LO{rs:List (Str×Int)}(h:fy rs):qK (eL rs):=λxs e=>by
 injection e with e;rw[<-e,bB];exact h.len
theorem Fx{A:Ar}{p q:Nat}{xs:List D}{R:DK}(h:A[p]?=some (.lst xs))(h':A[q]?=some (.lst xs))(d:ff xs=true)(e:canLayAll0 (aU xs)=true)(hd:depthAll (aU xs)<=60)(k:R (.bl true) A):e8 false (.ref p) (.ref q) A R:=by
 unfold e8;have a:bX A (.ref p)=.list (aU xs):=by unfold bX;simp only[h]
 have b:bX A (.ref q)=.list (aU xs):=by unfold bX;simp only[h']
 have c:canLay0 (.list (aU xs))=true:=by simpa[canLay0] using e
 refine⟨?_,?_,?_,?_,?_,?_⟩
 .unfold fS;simp only[h];exact d
 .unfold fS;simp only[h'];exact d
 .rw[a];exact c
 .rw[b];exact c
 .rw[a,b];simp only[PyData.depth];omega
 .rw[a,b,PySem.SeqAt.eqv_refl _ c]
  exact k
def wZ(d:Nat):Ct:=λds A R _=>∃ns t m n,ds=[.fl ns,.ref t,enc m]/\Wf m/\m.deep<d/\d<=6/\Tw t n A/\n+2 ^ d<=1000000/\∀o A',Wf o->lst o=lst m->Dr t A A' n (2 ^ d - 1)->R (enc o) A'
theorem EY{x y:M}(h:lst x=lst y):x.deep=y.deep:=by rw[<-jE x,h,jE]
end DP
namespace My
open L2 DP MA
theorem Gw(T:TopD K mg "_law_turned" Bc qh)(o:aj P w K mg base 3 "_law_draw" jc (ak mg 3 j_)):∀d,aj P w K mg base (d+4) "_law_turned" qh (ak mg 3 (wZ d)):=by
 intro d;induction d with
 |zero=>
  refine fQ T λds A R RE h=>?_;obtain⟨ns,t,m,n,_,_,h,_⟩:=h;omega
 |succ d g=>
  refine eN T BE rfl (by decide) λN RE f V B outer s H E z hR G ds A R h hl=>?_;have p:=z.units;have nd:=BE.nd;refine⟨_,(aD (aX (cJ p (dX p (vr 2) ai) aN) (aA (aG (vr 2))) aY)
  (aD (yv (i:=3) (j:=4) rfl nd rfl rfl (by decide) rfl rfl (aa (dL g z G (aa (vr 0) (aa (vr 1) (aa (dX p (vr 2) ai) af)))) (aa (dL g z G (aa (vr 0) (aa (vr 1) (aa (dX p (vr 2) ai) af)))) af)) rfl)
  (aD (aX (cJ p (dL o z G (aa (vr 0) (aa (vr 1) (aa ai af)))) ai) (aA (aG (c9 (aa aN (aa (dX p (vr 2) ai) (aa (dX p (vr 2) ai) (aa (vr 3) (aa (vr 4) af)))))))) aY)
  (aA (aG (c9 (aa aN (aa (dX p (vr 2) ai) (aa (dX p (vr 2) ai) (aa (vr 4) (aa (vr 3) af))))))))))),?_⟩
  obtain⟨ns,t,m,n,rfl,C,hd,h6,L,hc,q⟩:=h;have hp:2 ^ (d+1)=2*2 ^ d:=by rw[jS];omega
  have W:0<2 ^ d:=pow_pos (by decide);cases m with
  |wt k=>exact q _ _ C rfl ⟨cU.refl,L.mono (by omega)⟩
  |ay l r a b=>
   have X:max a.deep b.deep+1<d+1:=hd;obtain⟨M,O,Q,S,Y,Z⟩:=C.arms;refine⟨rfl,ns,t,a,n,rfl,C.left,by omega,by omega,L,by omega,λu A1 D e1 g1=>?_⟩;refine⟨rfl,ns,t,b,_,rfl,C.right,by omega,by omega,g1.tw,by omega,λv A2 F e2 g2=>?_⟩;refine⟨rfl,ns,t,2,_,rfl,g2.tw,by omega,by decide,λi A3 _ _ b3 t3=>?_⟩;have nm:∀x y:Int,1<=x->x<=9->1<=y->y<=9->Wf (.ay x y u v):=λx y h1 h2 h3 I=>⟨⟨h1,h2,h3,I,D.arms,F.arms⟩,λk hk=>by
    rcases bF.mp (show k∈u.names++v.names from hk) with h|h
    .exact D.nm k h
    .exact F.nm k h⟩
   have J:∀x y:Int,1<=x->x<=9->1<=y->y<=9->Wf (.ay x y v u):=λx y h1 h2 h3 I=>⟨⟨h1,h2,h3,I,F.arms,D.arms⟩,λk hk=>by
    rcases bF.mp (show k∈v.names++u.names from hk) with h|h
    .exact F.nm k h
    .exact D.nm k h⟩
   have U:Dr t A A3 n (2 ^ (d+1) - 1):=⟨(g1.but.trans g2.but).trans b3,t3.mono (by omega)⟩;have e:lst (.ay l r u v)=lst (.ay l r a b):=by simp only[lst,e1,e2]
   refine cD (λc=>?_) (λc=>?_)
   .exact⟨show 5<=sizeLine by decide,q (.ay l r u v) _ (nm l r M O Q S) e U⟩
   .exact⟨show 5<=sizeLine by decide,q (.ay r l v u) _ (J r l Q S M O) (by rw[Ik,e]) U⟩
end My
namespace DP
open L2 MA
theorem o9{i:Nat}{τ:bx}{A:Ar}{R:DK}{v:D}(h:lk τ i=some v)(q:R v A):mw i τ A R:=by
 unfold mw;rw[h];exact q
end DP
namespace My
open L2 DP MA
theorem Ge(T:TopD K mg "mobile_ahead" Bo qo){t:Tok}(o:mg "LONGEST_ARM"=some (.int 9 t))(u:aj P w K mg base 2 "weight_ahead" qx (ak mg 1 w_))(g:aj P w K mg base 1 "whole_number" nh (ak mg 2 sd))(p:aj P w K mg base 1 "behind" qj (ak mg 2 wg)):∀d,aj P w K mg base (d+3) "mobile_ahead" qo (ak mg 2 (wI d)):=by
 intro d;induction d with
 |zero=>
  refine fQ T λds A R RE h=>?_;obtain⟨m,rest,_,h,_⟩:=h;omega
 |succ d k=>
  refine eN T BQ rfl (by decide) λN RE f cdv B outer s H E v hR x ds A R h hl=>?_;have G:=v.units;have nd:=BQ.nd;refine⟨_,(aD (aX (bP (bQ (i6 jf PySem.F.slot_str_startswith PySem.F.type_str_startswith zM xZ (vr 0) (aa aN af)))) (aA (aG (dL u v x (aa (vr 0) af)))) aY)
  (aD (aX (cJ G (vr 1) ai) (aA jB) aY)
  (aD (dS 2 nd (dL g v x (aa (jA (vr 0) (gi ai) (gi ai)) (aa (eK o) af))))
  (aD (dS 3 nd (dL g v x (aa (dL p v x (aa (jA (vr 0) (gi ai) (gi ai)) (aa aN af))) (aa (eK o) af))))
  (aD (dS 4 nd (dL k v x (aa (dL p v x (aa (jA (vr 0) (gi ai) mF) (aa aN af))) (aa (i7 (vr 1) ai) af))))
  (aD (dS 5 nd (dL k v x (aa (dL p v x (aa (dX G (vr 4) ai) (aa aN af))) (aa (i7 (vr 1) ai) af))))
  (aA (aG (c9 (aa (c9 (aa aN (aa (vr 2) (aa (vr 3) (aa (dX G (vr 4) ai) (aa (dX G (vr 5) ai) af)))))) (aa (dL p v x (aa (dX G (vr 5) ai) (aa aN af))) af))))))))))),?_⟩
  obtain⟨m,rest,rfl,_,M,hd,Q,Z,q⟩:=h;have hz:(2000:Nat)<=sizeLine:=by decide
  have y:("(":Str)=S [40]:=by decide+kernel
  have I:(":":Str)=S [58]:=by decide+kernel
  have C:(" ":Str)=S [32]:=by decide+kernel
  have J:(")":Str)=S [41]:=by decide+kernel
  cases m with
  |wt n=>
   have hn:=M.nm n (by simp[aS.names]);have ln:n.length=n.cps.toList.length:=by simp[Str.length]
   have n1:=hn.lo;obtain⟨c,cs,hc⟩:∃c cs,n.cps.toList=c::cs:=by
    cases e:n.cps.toList with
    |nil=>rw[e] at ln;simp at ln;omega
    |cons c cs=>exact⟨c,cs,rfl⟩
   have hc1:=hn.az c (by rw[hc];simp);have e1:Txt.startswith (S (n.cps.toList++rest)) "("=false:=by
    rw[y,hc,cons_append,u9];exact dg (by omega)
   show cond (!Txt.startswith (S (n.cps.toList++rest)) "(") _ _;rw[e1];exact⟨rfl,n,rest,rfl,hn,Q,by omega,q⟩
  |ay l r a b=>
   obtain⟨U,V,W,X,ha,hb⟩:=M.arms;have la:(txt a).length=(txt a).cps.toList.length:=by simp[Str.length]
   have lb:(txt b).length=(txt b).cps.toList.length:=by simp[Str.length]
   have et:=fW (a:=a) (b:=b) U V W X;have lr:(txt (.ay l r a b)).length=(txt (.ay l r a b)).cps.toList.length:=by simp[Str.length]
   rw[et] at lr;simp only[dZ,b_,length_nil] at lr;have dm:max a.deep b.deep+1<d+1:=hd;have e0:(txt (.ay l r a b)).cps.toList++rest=40::(48+l.toNat)::58::(48+r.toNat)::32::((txt a).cps.toList++(32::((txt b).cps.toList++(41::rest)))):=by
    rw[et];simp
   rw[e0];have O:(S (40::(48+l.toNat)::58::(48+r.toNat)::32::((txt a).cps.toList++(32::((txt b).cps.toList++(41::rest)))))).length<=sizeLine:=by
    rw[d8];simp only[dZ,b_];omega
   have el:=kR U V;have er:=kR W X;obtain⟨tail,Y⟩:∃t,t=(txt a).cps.toList++(32::((txt b).cps.toList++(41::rest))):=⟨_,rfl⟩;have L:tail.length<=1000:=by
    rw[Y];simp only[dZ,b_];omega
   rw[<-Y] at O ⊢;have e1:Txt.startswith (S (40::(48+l.toNat)::58::(48+r.toNat)::32::tail)) "("=true:=by
    rw[y,u9];rfl
   refine cD (λc=>absurd (show(((d+1:Nat):Int) - 1)=0 from c) (by omega)) (λ_=>?_);have s1:=u6 (40::(48+l.toNat)::58::(48+r.toNat)::32::tail) (i:=1) (j:=2) (by decide) (by simp);have s2:=u6 (40::(48+l.toNat)::58::(48+r.toNat)::32::tail) (i:=2) (j:=4) (by decide) (by simp);have s3:=u5 (40::(48+l.toNat)::58::(48+r.toNat)::32::tail) (i:=4) (by simp);refine⟨O,rfl,l,9,cz (λz=>[D.str z,.int 9]) (s1.trans el.symm),U,by omega,V,.inl rfl,λA1 g1=>?_⟩;refine⟨O,rfl,58,[48+r.toNat],?_,show 1<=1000 by decide,?_⟩
   .rw[<-I]
    exact cz (λz=>[D.str z,.str ":"]) s2
   refine⟨rfl,r,9,cz (λz=>[D.str z,.int 9]) er.symm,W,by omega,X,.inl rfl,λA2 g2=>?_⟩;refine⟨O,rfl,32,tail,?_,L,?_⟩
   .rw[<-C]
    exact cz (λz=>[D.str z,.str " "]) s3
   refine⟨rfl,a,32::((txt b).cps.toList++(41::rest)),?_,by omega,M.left,by omega,rfl,?_,λA3 g3=>?_⟩
   .rw[<-Y]
    exact cz (λz=>[D.str (S tail),.int z]) (show(((d+1:Nat):Int) - 1) - 1=(d:Int) - 1 by omega)
   .simp only[dZ,b_]
    omega
   refine⟨rfl,32,(txt b).cps.toList++(41::rest),?_,?_,?_⟩
   .rw[<-C]
   .simp only[dZ,b_]
    omega
   refine⟨rfl,b,41::rest,?_,by omega,M.right,by omega,rfl,?_,λA4 g4=>?_⟩
   .exact cz (λz=>[D.str (S ((txt b).cps.toList++(41::rest))),.int z]) (show(((d+1:Nat):Int) - 1) - 1=(d:Int) - 1 by omega)
   .simp only[dZ,b_]
    omega
   refine⟨show 5<=sizeLine by omega,rfl,41,rest,?_,by omega,show 2<=sizeLine by omega,?_⟩
   .rw[<-J]
   exact q _ (((g1.trans g2).trans g3).trans g4)
end My
namespace DP
open L2 MA
def xg(d:Nat):Ct:=λds A R _=>∃m,ds=[enc m]/\Wf m/\m.deep<d/\(txt m).length<=1000/\∀A',Gr A A'->R (.str (txt m)) A'
def xh:Ct:=λds A R E=>∃x,ds=[x]/\br A x=true/\((b6 5 x=false/\∀A',Gr A A'->E "NoMobile" A')\/∃m,x=enc m/\Wf m/\m.deep<=5/\∀A',Gr A A'->R (.str (txt m)) A')
def rU:Ct:=λds A R _=>∃x,ds=[.str x]/\R .aM A
def wU:Ct:=λds A R _=>∃m,ds=[.str (txt m)]/\Wf m/\m.deep<=5/\∀A',Gr A A'->R (enc m) A'
theorem qT{m:M}(h:Wf m)(d:m.deep<=5):(txt m).length<=1000:=by
 have:=vt h;have e:2 ^ m.deep<=2 ^ 5:=dc (by decide) d;omega
theorem sY(x:Str):Str.empty++x=x:=by
 obtain⟨c⟩:=x;show(⟨#[]++c⟩:Str)=⟨c⟩;simp
theorem M_{l r:Int}{a b:M}(e:1<=l)(f:l<=9)(g:1<=r)(i:r<=9)(h:(txt (.ay l r a b)).length<=1000):(bg l).length=1/\(bg r).length=1/\(txt a).length+(txt b).length+7=(txt (.ay l r a b)).length:=by
 have c:(bg l).length=1:=by rw[kR e f];rfl
 have d:(bg r).length=1:=by rw[kR g i];rfl
 refine⟨c,d,?_⟩;show _=((((((((("(":Str)++bg l)++":")++bg r)++" ")++txt a)++" ")++txt b)++")").length;simp only[len_app,c,d];rw[show("(":Str).length=1 by decide+kernel,show(":":Str).length=1 by decide+kernel,show(" ":Str).length=1 by decide+kernel,show(")":Str).length=1 by decide+kernel];omega
theorem tX{me:aK}{m:ir}{τ:bx}{A:Ar}{acc:Str}{R:Str->Ar->Prop}{i:Int}(h:∀Q:DK,Q (.int i) A->me τ A Q)(hi:i.natAbs.log2<1920)(k1:(bg i).length<=sizeLine)(k2:acc.length+(bg i).length<=sizeLine)(k:m τ A (acc++bg i) R):xV me m τ A acc R:=by
 refine h _ ?_;have e:iC (.int i)=some (bg i):=ao hi;show(match iC (.int i) with
 |some y=>y.length<=sizeLine/\acc.length+y.length<=sizeLine/\m τ A (acc++y) R
 |none=>False)
 rw[e];exact⟨k1,k2,k⟩
theorem lg{i:Int}(h1:0<=i)(h2:i<=1000):i.natAbs.log2<1920:=by
 have:i.natAbs<=1000:=by omega
 have:=Nat.log2_le_self i.natAbs;omega
theorem oR:Str.empty.length=0:=rfl
theorem DA:("(":Str).length=1:=by decide+kernel
theorem Dz:(":":Str).length=1:=by decide+kernel
theorem sD:(" ":Str).length=1:=by decide+kernel
theorem Dy:(")":Str).length=1:=by decide+kernel
end DP
namespace My
open L2 DP MA
theorem Gz(T:TopD K mg "written_below" BB qA):∀d,aj P w K mg base (d+1) "written_below" qA (ak mg 1 (xg d)):=by
 intro d;induction d with
 |zero=>
  refine fQ T λds A R RE h=>?_;obtain⟨m,_,_,h,_⟩:=h;omega
 |succ d c=>
  refine eN T BS rfl (by decide) λN RE f p B outer s H E j C o ds A R h D=>?_;have e:=j.units;have nd:=BS.nd;refine⟨_,(aD (aX (cJ e (dX e (vr 0) ai) aN) (aA (aG (dX e (vr 0) ai))) aY)
  (aD (dS 1 nd (dX e (vr 0) ai))
  (aD (dS 2 nd (dX e (vr 0) ai))
  (aD (dS 3 nd (dL c j o (aa (dX e (vr 0) ai) af)))
  (aD (dS 4 nd (dL c j o (aa (dX e (vr 0) ai) af)))
  (aA (aG (yc (kG (kH (vr 1) (kG (kH (vr 2) (kG (kH (vr 3) (kG (kH (vr 4) (kG yp))))))))))))))))),?_⟩
  obtain⟨m,rfl,k,hd,g,q⟩:=h;have F:(2000:Nat)<=sizeLine:=by decide
  cases m with
  |wt n=>exact q _ Gr.refl
  |ay l r a b=>
   obtain⟨t,u,v,x,G,I⟩:=k.arms;obtain⟨y,z,J⟩:=M_ t u v x g;have L:max a.deep b.deep+1<d+1:=hd;refine⟨rfl,a,rfl,k.left,by omega,by omega,λM g1=>?_⟩;refine⟨rfl,b,rfl,k.right,by omega,by omega,λO g2=>?_⟩;refine⟨?_,tX (i:=l) (λQ q=>q) (lg (by omega) (by omega)) (by omega) ?_ ⟨?_,tX (i:=r) (λQ q=>q) (lg (by omega) (by omega)) (by omega) ?_ ⟨?_,?_,?_,?_,?_,?_,?_,?_,?_⟩⟩⟩;all_goals try first|omega|(simp only[len_app,sY,y,z,oR,DA,Dz,sD,Dy];omega)
   rw[sY];exact q _ (g1.trans g2)
theorem GB(T:TopD K mg "written" BA qz)(b:aj P w K mg base 9 "check_mobile" iI (ak mg 1 wm))(a:aj P w K mg base 7 "written_below" qA (ak mg 1 (xg 6))):aj P w K mg base 10 "written" qz (ak mg 1 xh):=by
 refine bC T LJ λd j e k nd=>⟨_,(aD (e_ (dL b d e (aa (vr 0) af)))
  (aA (aG (dL a d e (aa (vr 0) af))))),λds A R h l=>?_⟩
 obtain⟨x,rfl,g,h⟩:=h;refine⟨rfl,x,rfl,g,λn g1=>?_⟩;rcases h with⟨i,q⟩|⟨m,rfl,c,f,q⟩
 .rw[i]
  exact q _ g1
 .rw[tQ c f]
  exact⟨rfl,m,rfl,c,by omega,qT c f,λo g2=>q _ (g1.trans g2)⟩
theorem FY(T:TopD K mg "check_text" Bf m8)(a:mg "isinstance"=none)(b:mg "str"=none):aj P w K mg base 1 "check_text" m8 (ak mg 1 rU):=by
 refine bC T Ls λc d e f nd=>⟨_,(aA (aX (bP (bQ (eG mP a b boot_str (vr 0)))) (aA jB) aY)),λds A R h g=>?_⟩;obtain⟨x,rfl,q⟩:=h;exact q
theorem Gn(T:TopD K mg "read" Br qs){t:Tok}(d:mg "MOST_RODS"=some (.int 5 t))(b:aj P w K mg base 1 "check_text" m8 (ak mg 1 rU))(a:aj P w K mg base 9 "mobile_ahead" qo (ak mg 2 (wI 6))):aj P w K mg base 10 "read" qs (ak mg 1 wU):=by
 refine bC T LB λg l i f nd=>⟨_,(aD (e_ (dL b g i (aa (vr 0) af)))
  (aD (dS 1 nd (dL a g i (aa (vr 0) (aa (eK d) af))))
  (aD (aX (fE f (dX f (vr 1) ai) aN) (aA jB) aY)
  (aA (aG (dX f (vr 1) ai)))))),λds A R h n=>?_⟩
 obtain⟨m,rfl,j,k,q⟩:=h;refine⟨rfl,_,rfl,rfl,m,[],?_,by decide,j,by omega,rfl,by have:=qT j k;simpa using this,λo g1=>?_⟩
 .rw[gW,iw]
  rfl
 have e:(S []:Str)="":=by decide+kernel
 refine cN (λc=>c e) (λ_=>?_);exact q _ g1
end My
namespace DP
open L2 MA
def cu(r:Str×Int):Str:=(r.1++"=")++bg r.2
def gp(rs:List (Str×Int)):Str:=Str.join " " (rs.map cu)
theorem sC:("=":Str).length=1:=by decide+kernel
theorem yy:("=":Str)=⟨#[61]⟩:=by decide+kernel
theorem FA:(" ":Str)=⟨#[32]⟩:=by decide+kernel
theorem xR{c:Nat}:∀{a b r s:List Nat},c∉a->c∉b->a++c::r=b++c::s->a=b/\r=s
 |[],[],r,s,_,_,h=>⟨rfl,by simpa using h⟩
 |[],y::b,r,s,_,d,h=>by
  simp at h;exact absurd (h.1▸bJ ..) d
 |x::a,[],r,s,e,_,h=>by
  simp at h;exact absurd (h.1▸bJ ..) e
 |x::a,y::b,r,s,e,d,h=>by
  simp only[cons_append,List.cons.injEq] at h;obtain⟨f,g⟩:=xR (λz=>e (bE _ z)) (λz=>d (bE _ z)) h.2;exact⟨by rw[h.1,f],g⟩
theorem tW(c:Nat)(p q:Str)(r:List Str):(Str.join ⟨#[c]⟩ (p::q::r)).cps.toList=p.cps.toList++c::(Str.join ⟨#[c]⟩ (q::r)).cps.toList:=by
 show(p++⟨#[c]⟩++Str.join ⟨#[c]⟩ (q::r)).cps.toList=_;rw[kC,kC];simp
theorem zo(c:Nat):∀(ps a:List Str),ps≠[]->a≠[]->(∀p∈ps,c∉p.cps.toList)->(∀q∈a,c∉q.cps.toList)->Str.join ⟨#[c]⟩ ps=Str.join ⟨#[c]⟩ a->ps=a
 |[],_,h,_,_,_,_=>absurd rfl h
 |_,[],_,h,_,_,_=>absurd rfl h
 |[p],[q],_,_,_,_,h=>by rw[show p=q from h]
 |[p],q::b::a,_,_,d,_,h=>by
  have e:=cz (λz:Str=>z.cps.toList) h;simp only[tW] at e;exact absurd (show c∈p.cps.toList by rw[show p.cps.toList=_ from e];simp) (d p (by simp))
 |p::p2::ps,[q],_,_,_,f,h=>by
  have e:=cz (λz:Str=>z.cps.toList) h;simp only[tW] at e;exact absurd (show c∈q.cps.toList by rw[<-show _=q.cps.toList from e];simp) (f q (by simp))
 |p::p2::ps,q::b::a,_,_,d,f,h=>by
  have e:=cz (λz:Str=>z.cps.toList) h;simp only[tW] at e;obtain⟨i,j⟩:=xR (d p (by simp)) (f q (by simp)) e;have k:p=q:=by rw[<-iw p,<-iw q,i]
  have l:Str.join ⟨#[c]⟩ (p2::ps)=Str.join ⟨#[c]⟩ (b::a):=by rw[<-iw (Str.join ⟨#[c]⟩ (p2::ps)),<-iw (Str.join ⟨#[c]⟩ (b::a)),j]
  rw[k,zo c (p2::ps) (b::a) (by simp) (by simp) (λx g=>d x (bE _ g)) (λx g=>f x (bE _ g)) l]
theorem L_(x y:Str):Txt.split x y≠[]:=by
 unfold Txt.split;split
 .simp
 split
 .simp
 .rw[StrLaws.partsBetween_eq]
  obtain⟨p,r,e⟩:=StrLaws.partsFrom_ne x y.length 0 (Builtin.Str.occurrences x y 0 x.length (x.length+1));rw[e];simp
theorem L8{c:Nat}{ps:List Str}(h:ps≠[])(a:∀p∈ps,c∉p.cps.toList):Txt.split (Str.join ⟨#[c]⟩ ps) ⟨#[c]⟩=ps:=
 zo c _ _ (L_ _ _) h (StrLaws.split_free _ c) a (StrLaws.join_split _ _)
theorem JK(x y:Str):(Builtin.Str.partsBetween x (Builtin.Str.occurrences x y 0 x.length (x.length+1)) y.length).length<=x.length+2:=by
 have:=StrLaws.occ_length_le x y 0 x.length (x.length+1);unfold Builtin.Str.partsBetween;simp;omega
theorem part1{a b:List Nat}{c:Nat}(h:c∉a):gO (S (a++c::b)) ⟨#[c]⟩=(S a,⟨#[c]⟩,S b):=by
 have d:∀i,StrLaws.At (S (a++c::b)) ⟨#[c]⟩ (S (a++c::b)).length i↔(a++c::b)[i]?=some c:=λi=>by
  have:=StrLaws.subAt_one (S (a++c::b)) c i;rw[fq] at this;exact this
 rcases StrLaws.occ_head (S (a++c::b)) ⟨#[c]⟩ 1 (aI 1) with⟨_,hn⟩|⟨i,r,e,hi,hn⟩
 .exact absurd ((d a.length).mpr (by simp)) (hn a.length)
 .have f:i=a.length:=by
   have h1:=(d i).mp hi;by_cases g:i<a.length
   .rw[ic g] at h1
    exact absurd (vI h1) h
   by_cases j:a.length<i
   .exact absurd ((d a.length).mpr (by simp)) (hn a.length j)
   .omega
  subst f;unfold gO;rw[e];have k1:Builtin.Str.strSub (S (a++c::b)) 0 a.length=S a:=by
   refine s_ ?_;rw[StrLaws.strSub_toList,fq];simp
  have k2:Builtin.Str.strSub (S (a++c::b)) (a.length+(⟨#[c]⟩:Str).length) (S (a++c::b)).length=S b:=by
   refine s_ ?_;rw[StrLaws.strSub_toList,fq,d8];show List.take _ (List.drop (a.length+1) (a++c::b))=b;rw[show a++c::b=(a++[c])++b by simp,List.drop_left' (by simp),fG (by show _<=_ - (a.length+1);simp;omega)]
  show(Builtin.Str.strSub (S (a++c::b)) 0 a.length,_,Builtin.Str.strSub (S (a++c::b)) (a.length+(⟨#[c]⟩:Str).length) (S (a++c::b)).length)=_;rw[k1,k2]
theorem Af(r:Str×Int):(cu r).cps.toList=r.1.cps.toList++61::(bg r.2).cps.toList:=by
 unfold cu;rw[kC,kC,yy];simp
theorem Ht{n:Int}(h1:1<=n)(h2:n<=12):∀c∈(bg n).cps.toList,48<=c/\c<=57:=by
 have:n=1\/n=2\/n=3\/n=4\/n=5\/n=6\/n=7\/n=8\/n=9\/n=10\/n=11\/n=12:=by omega
 rcases this with rfl|rfl|rfl|rfl|rfl|rfl|rfl|rfl|rfl|rfl|rfl|rfl<;>decide+kernel
def Rw(r:Str×Int):Prop:=Nm r.1/\1<=r.2/\r.2<=12
theorem Kn{r:Str×Int}(h:Rw r):32∉(cu r).cps.toList:=by
 rw[Af];intro a;rcases bF.mp a with h1|h1
 .have:=h.1.az 32 h1
  omega
 rcases aW.mp h1 with h2|h2
 .omega
 .have:=Ht h.2.1 h.2.2 32 h2
  omega
theorem Ko{r:Str×Int}(h:Rw r):gO (cu r) "="=(r.1,("=":Str),bg r.2):=by
 have e:cu r=S (r.1.cps.toList++61::(bg r.2).cps.toList):=s_ (Af r);rw[e,yy,part1 (λz=>by have:=h.1.az 61 z;omega),iw,iw]
theorem nq{r:Str×Int}(h:Rw r):3<=(cu r).length/\(cu r).length<=6:=by
 have h1:=h.1.lo;have h2:=h.1.hi;obtain⟨k1,k2,_⟩:=tU h.2.1 h.2.2;unfold cu;rw[len_app,len_app,sC];omega
theorem Nq{rs:List (Str×Int)}(h:∀r∈rs,Rw r):(gp rs).length<=7*rs.length:=by
 have h1:=StrLaws.join_length_le " " (rs.map cu);have h2:=StrLaws.sumLen_le (B:=6) (rs.map cu) (λy a=>by obtain⟨r,b,rfl⟩:=b9.mp a;exact(nq (h r b)).2);rw[sD] at h1;rw[bB] at h1 h2;show(Str.join " " (rs.map cu)).length<=_;omega
theorem vA{rs:List (Str×Int)}(hn:rs≠[])(h:∀r∈rs,Rw r):Txt.split (gp rs) " "=rs.map cu:=by
 unfold gp;rw[FA];exact L8 (by simpa using hn) (λp a=>by obtain⟨r,b,rfl⟩:=b9.mp a;exact Kn (h r b))
theorem Nr{rs:List (Str×Int)}(hn:rs≠[])(h:∀r∈rs,Rw r):gp rs≠"":=by
 intro e;have b:=StrLaws.join_split (gp rs) " ";rw[vA hn h] at b;cases rs with
 |nil=>exact hn rfl
 |cons r rs=>
  have a:(gp (r::rs)).length=0:=by rw[e];decide+kernel
  have k:=(nq (h r (by simp))).1;cases rs with
  |nil=>
   have:(cu r).length=0:=a;omega
  |cons c rs=>
   have d:(cu r++" "++Str.join " " ((c::rs).map cu)).length=0:=a;rw[len_app,len_app] at d;omega
def wO:Ct:=λds A R _=>∃r:Str×Int,ds=[.str (cu r)]/\Rw r/\∀A',Gr A A'->R (cy r) A'
def xm:Ct:=λds A R E=>∃x,ds=[x]/\br A x=true/\qK x/\((¬oj x/\∀A',Gr A A'->E "NoWeights" A')\/∃rs,x=eL rs/\fy rs/\(∀r∈rs,r.2<=12)/\∀A',Gr A A'->R (.str (gp rs)) A')
def wW:Ct:=λds A R _=>∃rs,ds=[.str (gp rs)]/\fy rs/\(∀r∈rs,r.2<=12)/\∀A',Gr A A'->R (eL rs) A'
def xj:Ct:=λds A R _=>∃ns t q nms n,ds=[.fl ns,.ref t,.ref q]/\q≠t/\A[q]?=some (.lst (nms.map D.str))/\nms.Pairwise strLt/\(∀x∈nms,Nm x)/\nms.length<64/\Tw t n A/\n+100<=1000000/\∀rs A',fy rs->rs.map (·.1)=nms->(∀r∈rs,r.2<=12)->Dr t A A' n 100->R (eL rs) A'
theorem rw_of{rs:List (Str×Int)}(h:fy rs)(h2:∀r∈rs,r.2<=12):∀r∈rs,Rw r:=λr a=>⟨h.nm r a,(h.no r a).1,h2 r a⟩
end DP
namespace My
open L2 DP MA
theorem Gh(T:TopD K mg "named_number" Bp qp){t:Tok}(b:mg "HEAVIEST"=some (.int 999999 t))(a:aj P w K mg base 1 "whole_number" nh (ak mg 2 sd)):aj P w K mg base 2 "named_number" qp (ak mg 1 wO):=by
 refine bC T Lz λe i f d nd=>⟨_,(aD (dS 1 nd (i6 jf PySem.F.slot_str_partition PySem.F.type_str_partition IL EJ (vr 0) (aa aN af)))
  (aA (aG (c9 (aa (dX d (vr 1) ai) (aa (dL a e f (aa (dX d (vr 1) ai) (aa (eK b) af))) af)))))),λds A R h g=>?_⟩
 obtain⟨r,rfl,c,q⟩:=h;have j:(2000:Nat)<=sizeLine:=by decide
 have g:=nq c;refine⟨by decide+kernel,by omega,?_⟩;rw[Ko c];exact⟨rfl,r.2,999999,rfl,c.2.1,c.2.2,by have:=c.2.2;omega,.inr rfl,λk g1=>⟨show 2<=sizeLine by omega,q _ g1⟩⟩
theorem GD(T:TopD K mg "weights_text" Bx qy)(a:aj P w K mg base 4 "check_are_weights" jK (ak mg 1 wj)):aj P w K mg base 5 "weights_text" qy (ak mg 1 xm):=by
 refine bC T LH λb d j E nd=>⟨_,(aD (e_ (dL a b j (aa (vr 0) af)))
  (aA (aG (i6 jf PySem.F.slot_str_join PySem.F.type_str_join IK EE aN (aa (iy (some 2) (own:=["name","number"]) (frees:=[]) (ix:=[]) rfl (iz (vr 0)) (λc=>(uF rfl (ni (pG 0 (show(["name","number"]:List Str).Nodup by decide+kernel)) (ni (pG 1 (show(["name","number"]:List Str).Nodup by decide+kernel)) uG)))) (λc=>(yc (kH (vr 0) (kG (kH (vr 1) yp)))))) af))))),λds A R h G=>?_⟩
 obtain⟨x,rfl,p,s,h⟩:=h;have H:(2000:Nat)<=sizeLine:=by decide
 refine⟨rfl,x,rfl,p,s,λl t g1=>?_,λl t g1=>?_⟩
 .rcases h with⟨hn,_⟩|⟨rs,rfl,g,m,q⟩
  .exact absurd l hn
  have d:=rw_of g m;have o:=g.len;have e:(rs.map cy).map (λx=>match x with|.tup [.str n,.int k]=>D.str (cu (n,k))|x=>x)=(rs.map cu).map D.str:=by
   rw[iS,iS];rfl
  refine iY (f:=λx=>match x with|.tup [.str n,.int k]=>D.str (cu (n,k))|x=>x) trivial _ _ (λx j=>?_) (by simp;omega) ?_
  .obtain⟨r,b,rfl⟩:=b9.mp j
   have h1:=(d r b).1.hi;have h2:=(d r b).2;have h3:=nq (d r b);obtain⟨k1,k2,_⟩:=tU h2.1 h2.2;refine⟨[.str r.1,.int r.2],rfl,λQ u=>?_⟩;refine⟨by omega,by rw[oR];omega,by rw[len_app,oR,sC];omega,tX (i:=r.2) (λQ q=>q) (lg (by omega) (by omega)) (by omega) (by rw[len_app,len_app,oR,sC];omega) ?_⟩;have v:((Str.empty++r.1)++"=")++bg r.2=cu r:=by rw[sY];rfl
   rw[v];exact⟨by omega,u⟩
  rw[jR,e];refine HG aT ?_ ?_
  .unfold JoinOk
   rw[StrLaws.joinFits (B:=6) (λy z=>by obtain⟨r,b,rfl⟩:=b9.mp z;exact(nq (d r b)).2) (by rw[bB,sD];omega)];rfl
  .have C:Txt.join " " (rs.map cu)=gp rs:=StrLaws.glued_eq_join _ _
   rw[C];exact q _ (g1.trans Gr.push)
 .rcases h with⟨_,q⟩|⟨rs,rfl,g,_⟩
  .exact q _ g1
  .exact absurd ⟨rs,rfl,g⟩ l
theorem Gq(T:TopD K mg "read_weights" Bs qt)(i:mg "tuple"=none)(d:aj P w K mg base 1 "check_text" m8 (ak mg 1 rU))(b:aj P w K mg base 2 "named_number" qp (ak mg 1 wO))(f:aj P w K mg base 3 "is_weights" jd (ak mg 1 rW)):aj P w K mg base 4 "read_weights" qt (ak mg 1 wW):=by
 refine bC T LC λm u n p nd=>⟨_,(aD (e_ (dL d m n (aa (vr 0) af)))
  (aD (aX (cJ p (vr 0) aN) (aA (aG (c9 af))) aY)
  (aD (dS 1 nd (jy xH x6 i jk (aa (iy none (own:=["part"]) (frees:=[]) (ix:=[]) rfl (iz (i6 jf ri PySem.F.type_str_split IM EK (vr 0) (aa aN af))) (λc=>(pG 0 (show(["part"]:List Str).Nodup by decide+kernel))) (λc=>(dL b m qB (aa (vr 0) af)))) af)))
  (aD (aX (bP (bQ (dL f m n (aa (vr 1) af)))) (aA jB) aY)
  (aA (aG (vr 1))))))),λds A R h r=>?_⟩
 obtain⟨rs,rfl,k,j,q⟩:=h;have v:(2000:Nat)<=sizeLine:=by decide
 refine⟨rfl,_,rfl,?_⟩;by_cases h0:rs=[]
 .subst h0
  have e:gp []="":=by decide+kernel
  rw[e];exact⟨c5 _,q _ Gr.refl⟩
 refine cD (λc=>absurd c (Nr h0 (rw_of k j))) (λ_=>?_);have r:=Nq (rw_of k j);have o:=k.len;have z:=JK (gp rs) " ";refine⟨by decide+kernel,by omega,?_,by omega,?_⟩
 .rw[vA h0 (rw_of k j),bB]
  omega
 rw[vA h0 (rw_of k j)];refine pM aT ?_;refine sJ (λrest ys A'=>∃done a:List (Str×Int),rest=(a.map cu).map D.str/\ys=done.map cy/\done++a=rs/\Gr (A++[.lst ((rs.map cu).map D.str)]) A') ?_ ?_ ?_ ?_ _ _ _ ⟨[],rs,rfl,rfl,rfl,Gr.refl⟩
 .rintro rest ys A' ⟨done,a,_,_,_,g⟩
  exact g.get aT
 .rintro rest ys A' ⟨done,a,_,rfl,e,_⟩
  have:(done++a).length=rs.length:=by rw[e]
  simp at this ⊢;omega
 .rintro x rest ys A' ⟨done,a,l,rfl,e,g⟩
  cases a with
  |nil=>cases l
  |cons y a=>
   cases l;refine⟨[.str (cu y)],rfl,λQ s=>⟨rfl,y,rfl,rw_of k j y (by rw[<-e];simp),λt g2=>s _ _ ⟨done++[y],a,rfl,by simp,by simpa using e,g.trans g2⟩⟩⟩
 .rintro ys A' ⟨done,a,l,rfl,e,g⟩
  cases a with
  |cons y a=>cases l
  |nil=>
   have e:done=rs:=by simpa using e
   subst e;refine Cj aT ?_;refine⟨rfl,_,⟨done,rfl,k,rfl⟩,λt g2=>?_⟩;exact q _ (((Gr.push.trans g).trans Gr.push).trans g2)
theorem GC(T:TopD K mg "_law_weights" Bd qi)(j:mg "tuple"=none)(d:aj P w K mg base 3 "_law_draw" jc (ak mg 3 j_))(f:aj P w K mg base 4 "_law_pick" k_ (ak mg 3 lZ)):aj P w K mg base 5 "_law_weights" qi (ak mg 3 xj):=by
 refine bC T Lq λC O s S nd=>⟨_,(aD (dS 3 nd (dL f C s (aa (vr 0) (aa (vr 1) (aa (eH (aa ai (aa ai (aa ai (aa ai af))))) af)))))
  (aA (aG (jy xH x6 j jk (aa (iy none (own:=["_law_name"]) (frees:=["_law_script","_law_town","_law_wide"]) (ix:=[0,1,3]) rfl (iz (vr 2)) (λc=>(pG 0 (show(["_law_name","_law_script","_law_town","_law_wide"]:List Str).Nodup by decide+kernel))) (λc=>(c9 (aa (vr 0) (aa (c8 ai (dL d C qB (aa (vr 1) (aa (vr 2) (aa (vr 3) af))))) af))))) af))))),λds A R h U=>?_⟩
 obtain⟨ns,t,r,g,n,rfl,m,E,l,z,F,G,hn,q⟩:=h;obtain⟨H,B,_⟩:=id G;have V:=kZ B;refine⟨show 4<=sizeLine by decide,rfl,ns,t,_,[.int 1,.int 2,.int 4,.int 12],n,rfl,by omega,aT,by simp,G.gr Gr.push,by omega,λx I s J t1=>?_⟩;obtain⟨wide,rfl,m0,W⟩:∃k:Int,x=.int k/\1<=k/\k<=12:=by
  simp at s;rcases s with h|h|h|h<;>exact⟨_,h,by omega,by omega⟩
 have o:cU t A I:=Gr.push.but.trans J;refine pM (o r _ m E) ?_;refine sJ (λrest ys A'=>∃(rs:List (Str×Int)) (a:List Str),rest=a.map D.str/\ys=rs.map cy/\rs.map (·.1)++a=g/\(∀p∈rs,1<=p.2/\p.2<=12)/\cU t A A'/\Tw t (n+1+rs.length) A') ?_ ?_ ?_ ?_ _ _ _ ⟨[],g,rfl,rfl,rfl,λ_ h=>(by cases h),o,t1⟩
 .rintro rest ys A' ⟨rs,a,_,_,_,_,b,_⟩
  exact b r _ m E
 .rintro rest ys A' ⟨rs,a,_,rfl,e,_,_,_⟩
  have:(rs.map (·.1)++a).length=g.length:=by rw[e]
  have X:(64:Nat)<=sizeLine:=by decide
  simp at this ⊢;omega
 .rintro x rest ys A' ⟨rs,a,u,rfl,e,v,b,t'⟩
  cases a with
  |nil=>cases u
  |cons y a=>
   cases u;have:(rs.map (·.1)++y::a).length=g.length:=by rw[e]
   simp at this;refine⟨[.str y],rfl,λQ L=>⟨rfl,ns,t,wide,n+1+rs.length,rfl,t',by omega,by omega,λi Y Z i1 M N=>⟨show 2<=sizeLine by decide,L _ _ ⟨rs++[(y,1+i)],a,rfl,by simp[cy],by simpa using e,λp l=>?_,b.trans M,by rw[b_];exact N⟩⟩⟩⟩;rcases bF.mp l with h|h
   .exact v p h
   .rw[bV.mp h]
    exact⟨show 1<=1+i by omega,show 1+i<=12 by omega⟩
 .rintro ys A' ⟨rs,a,u,rfl,e,v,b,t'⟩
  cases a with
  |cons y a=>cases u
  |nil=>
   have e:rs.map (·.1)=g:=by simpa using e
   have el:rs.length=g.length:=by rw[<-e];simp
   refine Cj aT (q rs _ ⟨λp l=>z _ (by rw[<-e];exact lF l),λp l=>?_,by rw[e];exact l,by omega⟩ e (λp l=>(v p l).2) ⟨b.trans Gr.push.but,(t'.gr Gr.push).mono (by omega)⟩);have:=v p l;omega
end My
namespace DP
open L2 MA
theorem oW{c:Nat}:∀{l:List Nat},(∀x∈l,x≠c)->PyProof.Rows.cnt c l=0
 |[],_=>cnt_nil c
 |x::l,h=>by
  rw[cnt_cons,av (h x (bJ ..)),oW λy a=>h y (bE _ a)];rfl
theorem vo:∀{m:M},Wf m->PyProof.Rows.cnt 40 (txt m).cps.toList=(gK m:Int)/\PyProof.Rows.cnt 41 (txt m).cps.toList=(gK m:Int)/\PyProof.Rows.cnt 58 (txt m).cps.toList=(gK m:Int)
 |.wt n,h=>by
  have hn:=(h.nm n (by simp[aS.names])).az;exact⟨oW λx c=>by have:=hn x c;omega,oW λx c=>by have:=hn x c;omega,oW λx c=>by have:=hn x c;omega⟩
 |.ay l r a b,h=>by
  obtain⟨k,o,p,q,w,y⟩:=h.arms;obtain⟨a1,a2,s⟩:=vo h.left;obtain⟨t,u,v⟩:=vo h.right;have e:(gK (.ay l r a b):Int)=(gK a:Int)+(gK b:Int)+1:=by
   show((_:Nat):Int)=_;simp only[gK];omega
  have d:¬48+l.toNat=40:=by omega
  have f:¬48+l.toNat=41:=by omega
  have g:¬48+l.toNat=58:=by omega
  have i:¬48+r.toNat=40:=by omega
  have hr2:¬48+r.toNat=41:=by omega
  have j:¬48+r.toNat=58:=by omega
  rw[fW k o p q,e];simp+decide only[cnt_cons,cnt_append,cnt_nil,a1,a2,s,t,u,v,d,f,g,i,hr2,j,gx,dQ];omega
theorem nK:∀{m:M},Wf m->((txt (lst m)).cps.toList).Perm (txt m).cps.toList
 |.wt n,_=>.refl _
 |.ay l r a b,h=>by
  obtain⟨d,f,g,i,o,p⟩:=h.arms;have j:=vJ.mp (nK h.left);have k:=vJ.mp (nK h.right);show((txt (fC (.ay l r (lst a) (lst b)) (.ay r l (lst b) (lst a)))).cps.toList).Perm _;rw[vJ];intro c;rcases pY (.ay l r (lst a) (lst b)) (.ay r l (lst b) (lst a)) with e|e
  .rw[e,fW d f g i,fW d f g i]
   simp only[List.count_cons,List.count_append,List.count_nil,j,k]
  .rw[e,fW g i d f,fW d f g i]
   simp only[List.count_cons,List.count_append,List.count_nil,j,k];omega
theorem xS:∀{a b r s:List Nat},(∀c∈a,97<=c/\c<=122)->(∀c∈b,97<=c/\c<=122)->let1 r=false->let1 s=false->a++r=b++s->a=b/\r=s
 |[],[],r,s,_,_,_,_,h=>⟨rfl,h⟩
 |[],y::b,r,s,_,f,d,_,h=>by
  have h:r=y::(b++s):=h;rw[h] at d;have:=f y (bJ ..);simp[let1,this.1,this.2] at d
 |y::a,[],r,s,g,_,_,e,h=>by
  have h:y::(a++r)=s:=h;rw[<-h] at e;have:=g y (bJ ..);simp[let1,this.1,this.2] at e
 |x::a,y::b,r,s,g,f,d,e,h=>by
  simp only[cons_append,List.cons.injEq] at h;obtain⟨i,j⟩:=xS (λc z=>g c (bE _ z)) (λc z=>f c (bE _ z)) d e h.2;exact⟨by rw[h.1,i],j⟩
theorem Cy{n:Str}(hn:Nm n){x:List Nat}{r:List Nat}(h:n.cps.toList++r=40::x):False:=by
 have a:=hn.lo;have ln:n.length=n.cps.toList.length:=by simp[Str.length]
 cases e:n.cps.toList with
 |nil=>rw[e] at ln;simp at ln;omega
 |cons c cs=>
  rw[e] at h;have:=hn.az c (by rw[e];simp);have:=(List.cons.inj h).1;omega
theorem vp:∀{m o:M},Wf m->Wf o->∀{r s:List Nat},let1 r=false->let1 s=false->(txt m).cps.toList++r=(txt o).cps.toList++s->m=o/\r=s
 |.wt n,.wt k,c,d,r,s,j,p,h=>by
  obtain⟨q,t⟩:=xS (c.nm n (by simp[aS.names])).az (d.nm k (by simp[aS.names])).az j p h;exact⟨by rw[xQ q],t⟩
 |.wt n,.ay l r' a b,c,d,r,s,j,p,h=>by
  obtain⟨e,f,g,i,_,_⟩:=d.arms;rw[fW e f g i] at h;exact(Cy (c.nm n (by simp[aS.names])) h).elim
 |.ay l r' a b,.wt n,c,d,r,s,j,p,h=>by
  obtain⟨e,f,g,i,_,_⟩:=c.arms;rw[fW e f g i] at h;exact(Cy (d.nm n (by simp[aS.names])) h.symm).elim
 |.ay l r a b,.ay A r' F G,c,d,x,y,j,p,h=>by
  obtain⟨e,f,g,i,_,_⟩:=c.arms;obtain⟨u,v,w,z,_,_⟩:=d.arms;rw[fW e f g i,fW u v w z] at h;simp only[cons_append,bz,List.cons.injEq,true_and] at h;obtain⟨h1,h2,h3⟩:=h;obtain⟨B,C⟩:=vp c.left d.left rfl rfl h3;obtain⟨D,E⟩:=vp c.right d.right rfl rfl (List.cons.inj C).2;have q:l=A:=by omega
  have t:r=r':=by omega
  rw[B,D,q,t];exact⟨rfl,(List.cons.inj E).2⟩
theorem Na{m o:M}(a:Wf m)(b:Wf o):txt m=txt o↔m=o:=
 ⟨λh=>(vp a b (r:=[]) (s:=[]) rfl rfl (by rw[h])).1,λh=>by rw[h]⟩
theorem vq:∀{m:M},Wf m->∀c∈(txt m).cps.toList,c<=122
 |.wt n,h,c,hc=>((h.nm n (by simp[aS.names])).az c hc).2
 |.ay l r a b,h,c,hc=>by
  obtain⟨d,e,f,g,_,_⟩:=h.arms;have i:=vq h.left c;have j:=vq h.right c;rw[fW d e f g] at hc;simp only[aW,bF,eW,eY] at hc;rcases hc with h|h|h|h|h|h|h|h|h;all_goals first|omega|exact i h|exact j h
theorem LM{x:Str}(h:∀c∈x.cps.toList,c<=122){ys:List Str}(a:ys.Perm (L2.signs x)):∀y∈ys,canLay0 (.str y)=true:=λy b=>by
 obtain⟨c,hc,rfl⟩:=b9.mp (a.mem_iff.mp b);have:=h c hc;simp[canLay0,strOk];omega
theorem yh:∀ps:List (Str×Str),depthAll (aU (ps.map eS))<=1
 |[]=>by simp[aU,depthAll]
 |p::ps=>by
  have:=yh ps;simp only[eB,aU,depthAll];have e:(toQ (eS p)).depth=1:=by simp[eS,toQ,aU,PyData.depth,depthAll]
  omega
theorem LN{m o:M}{ys zs:List Str}(h:((txt m).cps.toList).Perm (txt o).cps.toList)(h1:ys.Perm (L2.signs (txt m)))(h2:zs.Perm (L2.signs (txt o)))(a:ys.Pairwise iM)(b:zs.Pairwise iM):zs=ys:=
 LP ((h2.trans (h.symm.map _)).trans h1.symm) b a
theorem Nb{m o:M}(a:Wf m)(b:Wf o)(h:lst m=lst o):((txt m).cps.toList).Perm (txt o).cps.toList:=(nK a).symm.trans (by rw[h];exact nK b)
theorem Ft{x y:Str}{A:Ar}{R:DK}(k:R (.bl (decide (x=y))) A):kI (.str x) (.str y) A R:=k
end DP
namespace My
open L2 DP MA
theorem F7{fo:Addr}{fd:FuncData}(T:iu K "law" "law" iL fo fd)(z:mg "len"=none)(p:mg "sorted"=none)(r:aj P w K mg base 10 "_law_some" qg (ak mg 3 (wX 4)))(j:aj P w K mg base 9 "_law_turned" qh (ak mg 3 (wZ 5)))(a:aj P w K mg base 10 "written" qz (ak mg 1 xh))(t:aj P w K mg base 9 "_law_rods" qf (ak mg 2 (wV 8)))(l:aj P w K mg base 10 "_law_names" qe (ak mg 1 wQ))(d:aj P w K mg base 5 "_law_weights" qi (ak mg 3 xj))(e:aj P w K mg base 5 "weights_text" qy (ak mg 1 xm))(g:aj P w K mg base 4 "read_weights" qt (ak mg 1 wW))(u:aj P w K mg base 10 "read" qs (ak mg 1 wU))(C:aj P w K mg base 11 "load" qm (ak mg 2 wF))(F:aj P w K mg base 18 "tips" qu (ak mg 2 w4))(b:aj P w K mg base 10 "least_turned" ql (ak mg 1 wG)):dH P w K mg base (a_ P w) 20 fo fd uB (ak mg 1 wC):=by
 refine GG T BO rfl (by decide) λN RE f cdv B outer s H E k hR i ds A R h hl=>?_;have I:=k.units;have nd:=BO.nd;refine⟨_,(@aD _ _ _ _ _ _ (dS 1 nd (eH af)) (@aD _ _ _ _ _ _ (dS 2 nd (dL r k i (aa (vr 0) (aa (vr 1) (aa ai af))))) (@aD _ _ _ _ _ _ (dS 3 nd (dL j k i (aa (vr 0) (aa (vr 1) (aa (vr 2) af))))) (@aD _ _ _ _ _ _ (dS 4 nd (dL a k i (aa (vr 2) af))) (@aD _ _ _ _ _ _ (aX (PW.pt (cF (fE I (bO cY cH z c6 (aa (dL a k i (aa (vr 3) af)) af)) (bO cY cH z c6 (aa (vr 4) af))) (dw (fE I (i_ I (dL a k i (aa (vr 3) af)) (vr 4)) (i_ I (vr 3) (vr 2)))))) (@aA _ _ _ _ (aG dU)) aY) (@aD _ _ _ _ _ _ (aX (PW.pt (cF (fE I (i6 jf slot_str_count type_str_count uv sO (vr 4) (aa aN af)) (bO cY cH z c6 (aa (dL t k i (aa (vr 2) (aa aN af))) af))) (dw (fE I (i6 jf slot_str_count type_str_count uv sO (vr 4) (aa aN af)) (i6 jf slot_str_count type_str_count uv sO (vr 4) (aa aN af)))))) (@aA _ _ _ _ (aG dU)) aY) (@aD _ _ _ _ _ _ (dS 5 nd (dL d k i (aa (vr 0) (aa (vr 1) (aa (dL l k i (aa (vr 2) af)) af))))) (@aD _ _ _ _ _ _ (dS 6 nd (dL g k i (aa (dL e k i (aa (vr 5) af)) af))) (@aD _ _ _ _ _ _ (aX (PW.pt (cF (fE I (dL C k i (aa (dL u k i (aa (vr 4) af)) (aa (vr 6) af))) (dL C k i (aa (vr 2) (aa (vr 5) af)))) (dw (fE I (dL F k i (aa (dL u k i (aa (vr 4) af)) (aa (vr 6) af))) (dL F k i (aa (vr 2) (aa (vr 5) af))))))) (@aA _ _ _ _ (aG dU)) aY) (@aD _ _ _ _ _ _ (dS 7 nd (dL b k i (aa (vr 3) af))) (@aA _ _ _ _ (aG (jx (i_ I (bO (xG rfl) xY p boot_sorted (aa (vr 4) af)) (bO (xG rfl) xY p boot_sorted (aa (dL a k i (aa (vr 7) af)) af))) (jz (i_ I (dL u k i (aa (dL a k i (aa (dL b k i (aa (vr 2) af)) af)) af)) (vr 7)))))))))))))))),?_⟩;obtain⟨ns,rfl,q⟩:=h;refine⟨c5 _,rfl,ns,_,0,rfl,⟨[],aT,aI _⟩,by decide,λm A1 y dm r1=>?_⟩;refine⟨rfl,ns,_,m,0+200,rfl,y,by omega,by decide,r1.tw,by decide,λo A2 J O r2=>?_⟩;have dO:=EY O;refine⟨rfl,enc m,rfl,jI y.nm,.inr ⟨m,rfl,y,by omega,λA3 g3=>?_⟩⟩;refine⟨rfl,enc o,rfl,jI J.nm,.inr ⟨o,rfl,J,by omega,λA4 g4=>?_⟩⟩;have hz:(3000:Nat)<=sizeLine:=by decide
 have Q:=qT y (by omega);have hp:=Nb J y O;have el:(txt o).length=(txt m).length:=by
  have:=hp.length_eq;simpa[Str.length] using this
 have S:=vo y;have lo:(lst o)=lst m:=O;have wl:=ua y;have dl:=jE m;refine⟨by omega,by omega,?_⟩;refine cN (λc=>absurd (show((txt o).length:Int)=((txt m).length:Int) by rw[el]) c) (λ_=>?_);refine⟨rfl,enc o,rfl,jI J.nm,.inr ⟨o,rfl,J,by omega,λA5 g5=>?_⟩⟩;refine o9 (v:=.str (txt m)) rfl ?_;refine Ft ?_;refine @o9 3 _ _ _ (enc o) ?_ ?_
 .rfl
 refine @o9 2 _ _ _ (enc m) ?_ ?_
 .rfl
 refine yD J.nm y.nm (by omega) ?_;refine cN (λc=>absurd (show decide (txt o=txt m)=decide (o=m) from decide_eq_decide.mpr (Na J y)) c) (λ_=>?_);refine⟨rfl,_,⟨m,_,rfl,by omega,by decide+kernel,by omega,rfl⟩,λA6 r6 g6 h6 l6=>?_⟩;refine pT h6 ?_;have U:("(":Str)=⟨#[40]⟩:=by decide+kernel
 have V:(")":Str)=⟨#[41]⟩:=by decide+kernel
 have W:(":":Str)=⟨#[58]⟩:=by decide+kernel
 refine cN (λc=>absurd (show Txt.count (txt m) "("=(((fU m "").map uN).length:Int) by rw[U,count_cnt,S.1,bB,uO]) c) (λ_=>?_);refine cN (λc=>absurd (show Txt.count (txt m) ")"=Txt.count (txt m) ":" by rw[V,W,count_cnt,count_cnt,S.2.1,S.2.2]) c) (λ_=>?_);refine⟨rfl,m,rfl,by omega,λA7 q7 xs g7 l7 h7 p7 X=>?_⟩;have n1:=aS.iH m;have pm:2 ^ m.deep<=2 ^ 4:=dc (by decide) dm;have lx:=pw_len xs m.names p7 λx i=>(X x).mp i;have t2:Tw A.length (0+200+(2 ^ 5 - 1)) A6:=(((r2.tw.gr g3).gr g4).gr g5).gr g6;obtain⟨Nt,Y,_⟩:=id t2;have N_:=kZ Y;refine⟨rfl,ns,_,_,xs,0+200+(2 ^ 5 - 1),rfl,by omega,h7,p7,λx i=>y.nm x ((X x).mp i),by omega,t2.gr g7,by decide,λrs A8 G Z L r8=>?_⟩;have M:Bk rs m:=⟨G,λn hn=>by rw[Z];exact(X n).mpr hn⟩;refine⟨rfl,_,rfl,Jj G.nm,LO G,.inr ⟨rs,rfl,G,L,λA9 g9=>?_⟩⟩;refine⟨rfl,rs,rfl,G,L,λNv NP=>?_⟩;refine⟨rfl,m,rfl,y,by omega,λNy NQ=>?_⟩;refine⟨rfl,_,⟨m,rs,rfl,y,M,by omega,rfl⟩,λNz NR=>?_⟩;refine⟨rfl,_,⟨m,rs,rfl,y,M,by omega,rfl⟩,λNB NS=>?_⟩;refine cN (λc=>absurd rfl c) (λ_=>?_);refine⟨rfl,m,rfl,y,by omega,λND NT=>?_⟩;refine⟨rfl,m,rs,rfl,y,M,by omega,λNF Ob NU GQ _=>?_⟩;refine⟨rfl,m,rs,rfl,y,M,by omega,λNG Oc GI GR _=>?_⟩;refine IQ (GI.get GQ) GR (Ag _) H_ (by have:=yh (fh (val rs) m "");simp[PyData.depth];omega) ?_;refine⟨rfl,_,⟨o,rfl,J,by omega,rfl⟩,λNH NV=>?_⟩;rw[lo];have z1:(txt m).cps.size<=1000:=Q;have z2:(txt (lst m)).cps.size<=1000:=qT wl (by omega);refine Ca z1 λys py sy=>?_;refine⟨rfl,enc (lst m),rfl,jI wl.nm,.inr ⟨lst m,rfl,wl,by omega,λNI GJ=>?_⟩⟩;refine Ca z2 λzs pz sz=>?_;obtain rfl:=LN (nK y).symm py pz sy sz;refine Fx (xs:=zs.map D.str) (getElem?_push (GJ.get aT)) aT (qC zs) (zy zs (LM (vq y) py)) (by rw[yi];decide) ?_;refine⟨rfl,_,⟨m,rfl,y,by omega,rfl⟩,λNJ NW=>?_⟩;refine⟨rfl,enc (lst m),rfl,jI wl.nm,.inr ⟨lst m,rfl,wl,by omega,λNK NX=>?_⟩⟩;refine⟨rfl,lst m,rfl,wl,by omega,λNL NY=>?_⟩;refine o9 (v:=enc (lst m)) rfl ?_;refine yD wl.nm wl.nm (by omega) ?_;rw[dN rfl];exact q _
end My
namespace L2
theorem tD{K:Frag}{h:Heap}{mg:au}{x:Str}{st:Stmt}{ps:List Str}{f:Addr}{g:Value}{i an:Option Addr}{e:Array (Option Value)}{kV doc pm b ct:Value}(X:K.In h)(G:h.Ns mainGlobals mg)
  (a:nsIn K mainGlobals x=some (some (.ref f)):=by k_is)(l:K.lookup f=some ⟨g,i,.func (fnOf x x (i8 st) (e9 st) (aH st) .none kV doc pm an b ct),e⟩:=by k_is)(c:codeIn K b x=true:=by k_is)(k:keepIn K (.ref f)=true:=by k_is)
  (j:∀(kV doc pm:Value) (an:Option Addr) (b ct:Value) (d:List Value),d.length=ps.length->bindArgs (fnOf x x (i8 st) (e9 st) (aH st) .none kV doc pm an b ct) ⟨d,[]⟩=pure (ps.zip d):=by(intro _ _ _ _ _ _ d m;rcases d with _|⟨_,_|⟨_,_|⟨_,_|⟨_,_|⟨_,_|⟨_,_⟩⟩⟩⟩⟩⟩<;>first|rfl|(simp at m))):TopD K mg x st ps:=
 ⟨f,_,tL l c k,(tL l c k).binds j,mg_of X G a⟩
theorem bN{K:Frag}{h:Heap}{mg:au}{x:Str}(X:K.In h)(G:h.Ns mainGlobals mg)(a:nsIn K mainGlobals x=some none:=by k_is):mg x=none:=PySem.W.mg_none_of X G a
theorem eX{K:Frag}{h:Heap}{mg:au}{x:Str}{v:Value}(X:K.In h)(G:h.Ns mainGlobals mg)(a:nsIn K mainGlobals x=some (some v):=by k_is):mg x=some v:=mg_of X G a
end L2
namespace My
open L2 DP MA
theorem walk{l:PySem.W.OpenLaw}{q:Program}{loose:List Str}{i:(au)->Heap->Prop}{c:World->Heap->Prop}{d:DefRec}{K:Params->Frag}(hn:l.most=some 63)(b:d.params.defaults=[])(j:∀p,(K p).all (λp=>jG p.2)=true)
  (m:∀(w:World) (h:Heap),c w h->(K w.params).In h)
  (F:∀(w:World) (mg:au) (g:Addr) (h:Heap),(K w.params).In h->h.Ns mainGlobals mg->mg d.name=some (.ref g)->
   ∃fd:FuncData,(∀(s:Shared) (u:Value),BindsTo s fd ⟨[u],[]⟩ [("_law_script",u)])/\∀base:Heap,(K w.params).In base->base.Ns mainGlobals mg->dH l.prog w (K w.params) mg base (a_ l.prog w) 20 g fd ["_law_script"] ly):
  PySem.W.WalkO q loose i c l.row.toRowW d [] (λf o=>PySem.call f o):=
 L2.Ng (n:=63) (k:=20) (x:="_law_script") (CX:=λw=>a_ l.prog w) (sp:=λ_=>ly) hn (by decide) b ⟨rfl,by decide,by decide⟩ m F (λw H a ns _ r t=>GH (j w.params) r t) λw H s e s' z=>by
  obtain⟨_,_,_,_,_,z⟩:=z
  exact z
theorem HZ{P:Program}{w:World}{K:Frag}{h:Heap}{mg:au}{o j:Addr}{k b:Option Addr}{l:Array (Option Value)}{m c d g a i:Value}(X:K.In h)(G:h.Ns mainGlobals mg)(n:mg "law"=some (.ref o))
  (p:nsIn K mainGlobals "law"=some (some (.ref j)))(q:K.lookup j=some ⟨m,k,.func (fnOf "law" "law" (i8 iL) (e9 iL) (aH iL) .none c d g b a i),l⟩)(r:codeIn K a "law"=true)(k3:keepIn K (.ref j)=true)
  (go:∀(base:Heap) {f:Addr} {fd:FuncData},iu K "law" "law" iL f fd->dH P w K mg base (a_ P w) 20 f fd uB ly):
  ∃fd:FuncData,(∀(s:Shared) (v:Value),BindsTo s fd ⟨[v],[]⟩ [("_law_script",v)])/\∀base:Heap,K.In base->base.Ns mainGlobals mg->dH P w K mg base (a_ P w) 20 o fd ["_law_script"] ly:=by
 have e:=n.symm.trans (mg_of X G p)
 cases e
 exact⟨fnOf "law" "law" (i8 iL) (e9 iL) (aH iL) .none c d g b a i,λs v=> .of_eq rfl,λbase _ _=>go base (tL q r k3)⟩
end My
end
open PySem PySem.W PyProof.Rows
set_option maxHeartbeats 0
structure PySem.W.Fast:Prop where (tw1034198873290847595 tw861502493610598483 tw2805076105184715749 tw917690371228188093 tw7774113678449685934 tw11902634481463165889 tw182548527808355788 tw15606834981724049387 tw4003800409337655787 tw17071478250421689845 tw13697893789764255929 tw10341888390210383824 tw12652081859355081885 tw10724971666583874601 tw3215387988796971590 tw4881592894971031630 tw258204147387103276 tw14611616552423853409 tw16766683885213920930 tw3382625519597670723 tw9784134513789038367 tw13946496683202179788 tw3475869608268796686 tw17590705303994421779 tw16670775579421159206 tw2403389108928632939 tw12903330217458380548 tw1725486776273817318 tw14391293386007564604 tw13114645530532618160 tw15779231459743154856 tw16822532161544500889 tw4480162626587320490 tw12147665669636231765 tw3671519592330383864 tw12843764043397292189 tw13953587524928339648 tw13861969467909019144 tw11161164713144168021 tw5002640475654186023 tw9387514328989991554 tw17334828202450815106 tw1840220198017710270 tw209982475168477708 tw8899516883271353254 tw2595585439558603231 tw18157406047293677543 tw13956191218907399338 tw3300257896294614128 tw2187251505897268136 tw8912161614967838395 tw6148498323302512570 tw3681537716864247207 tw87601786513091389 tw6968137755033780318 tw13135312941875745310 tw6858818405166986180 tw6427576097997697322 tw4321966507151631593 tw1383625962624193546 tw8080008513338510535 tw2399617604181995578 tw10624116801336726872 tw6105849179199505303 tw14226173905949225808 tw6128106870883400570 tw9456574344343218679 tw1972164579936704799 tw4906484309439969231 tw1717767836212652739 tw15173544498738437827 tw726351398001015727 tw5217270863462422736 tw1915925776726481438 tw11962351593759143498 tw15685335758407661847 tw9806118890596472461 tw16723463757517087524 tw14664691819916384248 tw10295913840692754127 tw1070438729232803039 tw1532491051758110099 tw4849480874435393781 tw4804111812005502284 tw11401859456886640639 tw9536688357841153863 tw9848817304349107530 tw16756451883985382160 tw10698057553749749337 tw4734895289157585001 tw11692469974320434101 tw15590096980072825465 tw16615150188913437886 tw16248296213531012650 tw4953865588907285216 tw17760279517084355780 tw4547051000311932777 tw11066385474520676512 tw10042083083395451092 tw13913613514976480042 tw443766864951011646 tw6469784823511061222 tw18367749455379333440 tw1495895850433845275 tw8739830900816887780 tw16226643914720891334 tw4309217394794523951 tw7867829370405329436 tw11384182702204212275 tw17214186515701724070 tw3419001889969749887 tw2483420100392427323 tw16279288168775177219 tw14842496431369740429 tw13462424878891718212 tw1205274952441263945 tw8972062959192195235 tw6229817132586351632 tw2789304352393801511 tw2646887283097553488 tw11898673842065290130 tw11564986514327137767 tw14424681132571578402 tw16864618592142003386 tw3239113980409921550 tw9860861378791804195 tw3543459598558145280 tw896878414759379649 tw17435391645217708394 tw9950792792127014553 tw8997383693586321770 tw14904681115217272601 tw17518593693041627797 tw12297992134047619483 tw5101696844757716304 tw7164969610272591079 tw5667099127317398114 tw4323258101793500111 tw14387916025512776202 tw15042883488752021643 tw3374319085511977134 tw12459912946257978736 tw17292613610259460706 tw740290905518256060 tw17351735930882485243 tw15438627641174518403 tw10826640976665885199 tw16682895059504647277 tw15227483606004533461 tw13421457143807847188 tw9615563845995560447 tw5459702643516471331 tw16108870410212019532 tw6170744672141170255 tw2244103112122482387 tw12099505692703838030 tw5832305185047221409 tw2931988195819169919 tw13055953723892786844 tw17613222154834848340 tw896239598344801917 tw10519837036962490867 tw11373181179767321252 tw6356304189028158447 tw12431713363859531893 tw2261719852989239553 tw15925456577456769635 tw1864683662541468164 tw2135409205425526673 tw1825952489489211193 tw17170472223608059050 tw772564365185477556 tw13437419889732721216 tw10879749546641988924 tw17338325484393633139 tw11823594873375168262 tw11266997524610791606 tw2455152089536381482 tw13810262117814702294 tw3721919958574915784 tw16053306600634468012 tw10842938092177581297 tw2692750590507578028 tw10016166984437732892 tw13769103115541136327 tw13053770412826190925 tw1979317910248211280 tw9402243437249704421 tw4075453323654395381 tw17744993626210230056 tw9582823730064241283 tw938635154573522699 tw4436474186459923750 tw447263597446747957 tw17464319187374939960 tw4493901809537577575 tw5438652380644606353 tw4635989785427082552 tw3985964047577975286 tw16409965706819354750 tw14172470266813156586 tw11429584451438056573 tw10294118229990073760 tw11907897558876765624 tw12269216009862288129 tw17062427158221528723 tw4683681711962371626 tw8157277791214410489 tw4548300405975405348 tw14050444887725772628 tw643336161829623379 tw10374632558016547081 tw15805137534098808535 tw10159399881129095643 tw5344687154915797982 tw18146532975450069615 tw8219003486749837733 tw6522051377940421278 tw4684226298888400098 tw15861351967447197489 tw12330612334027959195 tw13674586047789940208 tw5449601097390414333 tw3641951560692057861 tw3042748168174471775 tw14782755387869428366 tw6953138203311097117 tw7476452910721959123 tw2400638427578300857 tw17187875760726034783 tw12727641955093265886 tw4077048163395320219 tw5702276774652866934 tw2353497105660221152 tw18101783494082082527 tw9495317472360511255 tw5498123283257192965 tw11766667032028208565 tw10792498714594961201 tw9977182230042388008 tw9919008367099125623 tw9879335643197240621 tw9796564346219866840 tw9689729476882780088 tw9592521066531166775 tw9461873434466728008 tw9404705873571188630 tw9116068151291705539 tw8760152093665844161 tw8733291241859026926 tw866717566613908145 tw855453113358079251 tw8431482922422412695 tw8422229294311615681 tw8374155422468719031 tw8297923619242306668 tw8285278889055680438 tw8159993647027272844 tw8060666987683057360 tw8047209995159408440 tw8002303944043701648 tw7424060955962978353 tw7322748291113730364 tw7217548393331319763 tw6822071536725586909 tw6549852094080907030 tw6548459193220583526 tw6472337539984862722 tw615563214671542189 tw5622701340561072331 tw539538531456391632 tw5072417060200589145 tw4971374062829452455 tw4699756791338806529 tw446995266069924076 tw4096438862311573950 tw4039707410889071942 tw3919386906821981792 tw384561282630992784 tw3308634892276815127 tw2950685276103557050 tw2941924889016668590 tw2827255003249426055 tw28018229315631829 tw2474200967059427378 tw2295934692909999376 tw2228412568605170491 tw2144661209622563809 tw2107523057676978006 tw1950803216711332702 tw18418582437962087742 tw17318462890700432884 tw16955839230299176341 tw16919654943277366748 tw16902440903046159558 tw16636501806038632012 tw16140922888777852060 tw16120054744476736488 tw15621415185263527259 tw15539815450414544023 tw15402603294489630176 tw15401437161963490237 tw15127105006835628225 tw14958820412457663293 tw14903569129155370506 tw14827714588952709054 tw14760874974797668852 tw1467881925912835984 tw14564479935002850509 tw14404928986312190071 tw140236481695663071 tw14022695629967993375 tw13812277999558781770 tw13757698761724263525 tw13622603851894308203 tw13547939009206843870 tw13444670453868202053 tw12954591660760965231 tw12917704675397863716 tw12770481643036789091 tw12670982853097334264 tw12382822922155266910 tw11738243743197964597 tw11024694936033576346 tw10876078143196172821 tw10551173667578312727 tw10510056951384868246:True)
open L2 DP MA My
open_top hd for PySem.Challenge.rw_hangstill_k36_whole_written_and_turned
theorem PySem.Challenge.cw_hangstill_k36_whole_written_and_turned_holds : PySem.Challenge.rw_hangstill_k36_whole_written_and_turned.Holds := by
 refine hd ?_;k_fill;refine My.walk (l:=PySem.Challenge.rw_hangstill_k36_whole_written_and_turned) rfl rfl ?K (λw h Y=>PySem.W.kIn_of Y) ?F;case K=>exact λp=>(Eq.refl true:true=true)
 case F=>
  intro w mg fa h KX G hmg;refine' My.HZ KX G hmg ?aL ?lL ?cL ?kL ?GO;(case aL=>k_is);(case lL=>k_is);(case cL=>k_is);(case kL=>k_is);case GO=>
   intro base f fd T;have zH:mg "NoMobile"=some _:=eX KX G;have um:mg "NoWeights"=some _:=eX KX G;have v9:=FP (P:=PySem.Challenge.rw_hangstill_k36_whole_written_and_turned.prog) (w:=w) (base:=base) (tD KX G) (bN KX G) (bN KX G) (bN KX G);have rN:=FN (P:=PySem.Challenge.rw_hangstill_k36_whole_written_and_turned.prog) (w:=w) (base:=base) (tD KX G) (bN KX G) (bN KX G) (bN KX G) (bN KX G) (eX KX G);have CK:=FI (tD KX G) (bN KX G) (bN KX G) (bN KX G) (bN KX G) (eX KX G) rN v9 6;have CW:=FL (tD KX G) (eX KX G) CK;have CG:=FH (tD KX G) zH (by k_exc) CW;have C0:=FO (tD KX G) (bN KX G) (bN KX G) (bN KX G) (eX KX G) rN v9;have CL:=FJ (tD KX G) (bN KX G) (bN KX G) (bN KX G) (bN KX G) (bN KX G) C0;have CD:=FG (tD KX G) um (by k_exc) CL;have v8:=F5 (P:=PySem.Challenge.rw_hangstill_k36_whole_written_and_turned.prog) (w:=w) (base:=base) (tD KX G) (bN KX G) (bN KX G) (bN KX G);have v7:=F4 (P:=PySem.Challenge.rw_hangstill_k36_whole_written_and_turned.prog) (w:=w) (base:=base) (tD KX G) (bN KX G) (bN KX G) (bN KX G) (bN KX G) (eX KX G);have CJ:=F2 (tD KX G) (bN KX G) (bN KX G) (bN KX G) (bN KX G) (eX KX G) v7 v8 6;have CI:=F3 (tD KX G) (eX KX G) CJ;have rM:=FW (tD KX G) zH (by k_exc) CI;have CZ:=Gi (tD KX G) (bN KX G) (bN KX G) (bN KX G) (eX KX G) v7 v8;have vW:=F6 (tD KX G) (bN KX G) (bN KX G) (bN KX G) (bN KX G) (bN KX G) CZ;have vX:=F8 (P:=PySem.Challenge.rw_hangstill_k36_whole_written_and_turned.prog) (w:=w) (base:=base) (tD KX G) 8;have vY:=F_ (tD KX G) (bN KX G) vX;have CC:=FT (tD KX G) um (by k_exc) vW;have vV:=FZ (tD KX G) (bN KX G) um (by k_exc) CC vX;have CB:=FQ (P:=PySem.Challenge.rw_hangstill_k36_whole_written_and_turned.prog) (w:=w) (base:=base) (tD KX G) (bN KX G);have v_:=GA (P:=PySem.Challenge.rw_hangstill_k36_whole_written_and_turned.prog) (w:=w) (base:=base) (tD KX G) (bN KX G) (bN KX G) (bN KX G) (bN KX G) (eX KX G);have Dc:=Gy (tD KX G) (eX KX G) rN;have CT:=Ge (tD KX G) (eX KX G) Dc v_ CB 6;have Dd:=Gz (P:=PySem.Challenge.rw_hangstill_k36_whole_written_and_turned.prog) (w:=w) (base:=base) (tD KX G) 6;have De:=GB (tD KX G) CG Dd;have vU:=FY (P:=PySem.Challenge.rw_hangstill_k36_whole_written_and_turned.prog) (w:=w) (base:=base) (tD KX G) (bN KX G) (bN KX G);have C3:=Gn (tD KX G) (eX KX G) vU CT;have CY:=Gh (tD KX G) (eX KX G) v_;have Dg:=GD (tD KX G) CD;have C5:=Gq (tD KX G) (bN KX G) vU CY vW;have C2:=Gm (tD KX G) vY;have C7:=Gu (tD KX G) C2 6;have C8:=Gv (tD KX G) (bN KX G) rM vV C7;have CN:=Ga (tD KX G) (bN KX G) rM vV vY;have C_:=Gx (P:=PySem.Challenge.rw_hangstill_k36_whole_written_and_turned.prog) (w:=w) (base:=base) (tD KX G);have CM:=F9 (tD KX G) (bN KX G) C_ 7;have CQ:=Gb (tD KX G) rM CM;have CF:=FU (P:=PySem.Challenge.rw_hangstill_k36_whole_written_and_turned.prog) (w:=w) (base:=base) (tD KX G) (bN KX G);have CU:=Gf (tD KX G) CF;have lW:=F0 (tD KX G) (bN KX G) CU;have rO:=Gk (tD KX G) (bN KX G) lW;have CV:=Gg (tD KX G) lW rO;have CH:=F1 (P:=PySem.Challenge.rw_hangstill_k36_whole_written_and_turned.prog) (w:=w) (base:=base) (tD KX G) (bN KX G) 8;have C6:=Gs (tD KX G) lW rO CV CH 4 (by decide);have CS:=Gd (P:=PySem.Challenge.rw_hangstill_k36_whole_written_and_turned.prog) (w:=w) (base:=base) (tD KX G) 8;have C1:=Gj (tD KX G) (bN KX G) (bN KX G) CS;have Df:=GC (tD KX G) (bN KX G) lW rO;have C4:=Gp (P:=PySem.Challenge.rw_hangstill_k36_whole_written_and_turned.prog) (w:=w) (base:=base) (tD KX G) 8;have C9:=Gw (tD KX G) lW 5;exact(F7 T (bN KX G) (bN KX G) C6 C9 De C4 C1 Df Dg C5 C3 CN C8 CQ).imp λvs H Q E h=>L7 h
