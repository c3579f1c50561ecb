import PyProof.Rows.All
import Wide.All
import OpenK.AllK
import Wide.FinOn
import Lean
import PyProof.EqAt
import PyProof.EqKinds
import PyProof.NeKinds
import PyProof.TupleCall
import PyProof.ZipIter
import PyProof.ListNew
import PyProof.P3Eq
import PyProof.NeData
import PyProof.EnumFor
import PyProof.EnumMake
import PyProof.ExcBaseAll.ValueError
import PyProof.Rows.SetFrom
import PyProof.CollectWalk
import PyProof.SumWalk
import PyProof.FString
import KE.KDictOf
import PyProof.AttrMissHeap
import PyProof.TupleOfGen
import KE.KDictSum
import PyProof.ConsumeS
import PyProof.P3In
import PyProof.Rows.RuleN_abs
import PyProof.Rows.FactsN_abs
import PyProof.StrBlockI
import PyProof.SliceStr2
import PyProof.Rows.StrClose
import PyProof.FactsAll.tuple_2
import PyProof.MinMaxWalk
import PyProof.WalksMore
import PyProof.Rows.RowHeap
import PyProof.DictWalks
import KE.KSortTup
import PyProof.Rows.ListMul
import PyProof.ListRange
import PyProof.TupleOfStr
import KE.KRevSl
import KE.KDictList
import KE.KIntText
import PyProof.ReprStr
import KE.KRevIter
import PyProof.DictUpdate
import PyProof.StrOps
import KE.KEqDict
import KE.IntBitsLaws
import PyProof.Rows.SortRuns
import PyProof.Rows.SortKey
import Wide.Seal
import PySem.Challenge.RW_hangstill_k12_whole_least_turned
import KE.RegKIsAll
import KE.RegKTryMore
set_option Elab.async false
set_option linter.all false
set_option maxRecDepth 100000
set_option maxHeartbeats 4000000
open PySem.Heap (ExtBut SameBut)
open PySem.W (Frag codeIn excIn findIn fnOf hideAll hideAll_get instObj keepIn kitOne kitx_dict kitx_list kitx_tuple lookIn methodObj mg_of nsIn of_hideAll plainGet)
open Nat (add_mul add_sub_cancel add_zero le_succ mod_lt one_mul pow_pos pow_succ sub_self succ_add succ_pos zero_add)
open List (Nodup Pairwise Perm all_eq_true drop_take drop_zero ext_getElem foldl length_range lookup_cons map_append mem_filter nil_append nodup_cons not_lt of_mem_zip range replicate take_add take_take)
open Array (forIn_toList size_map toList)
open Option (getD_none getD_some map_some)
open Int (emod_nonneg)
open PySem.F (args_tuple_add_2 entry_tuple_add plainAttrs_list slot_tuple_add)
open PySem.PyData (canLay0 canLayAll0 depthAll eqvAll)
abbrev qW:= @_root_.PyProof.Rows.slot_tuple_getitem
abbrev g4:= @_root_.PySem.Around.under_plainId
abbrev cu:= @_root_.Array.getElem?_eq_getElem
abbrev iV:= @_root_.Bool.eq_iff_iff
abbrev b7:= @_root_.Bool.false_ne_true
abbrev jO:= @_root_.Bool.not_true
abbrev iY:= @_root_.PySem.F.plain_min_loop
abbrev q8:= @_root_.PyProof.Rows.F.plain_set_update_loop
abbrev oz:= @_root_.Int.emod_lt_of_pos
abbrev oA:= @_root_.Int.toNat_natCast
abbrev n5:= @_root_.PyProof.Rows.KeyOrd.kle_of_klt
abbrev fF:= @_root_.PyProof.Rows.KeyOrd.kle_refl
abbrev lA:= @_root_.PyProof.Rows.KeyOrd.kle_trans
abbrev n_:= @_root_.List.extract_eq_take_drop
abbrev qX:= @_root_.List.getElem?_cons_succ
abbrev qY:= @_root_.List.getElem?_eq_none
abbrev b6:= @_root_.List.getElem?_eq_some_iff
abbrev om:= @_root_.Nat.add_sub_cancel_left
abbrev lH:= @_root_.Nat.exists_eq_succ_of_ne_zero
abbrev gE:= @_root_.PySem.Obj.data_mapFields
abbrev qZ:= @_root_.PySem.Obj.isFreed_of_fields
abbrev fH:= @_root_.List.Perm.append_left
abbrev fY:= @_root_.List.Perm.append_right
abbrev fJ:= @_root_.PySem.boot_len
abbrev h_:= @_root_.PySem.mem_of_lookup
abbrev fZ:= @_root_.Bool.and_eq_true
abbrev aW:= @_root_.List.append_assoc
abbrev e8:= @_root_.List.append_nil
abbrev gF:= @_root_.beq_iff_eq
abbrev ic:= @_root_.bne_self_eq_false
abbrev q7:= @_root_.PySem.builtinLookup_eq_fast
abbrev ie:= @_root_.PySem.F.called_set
abbrev gG:= @_root_.PySem.codeAny_builtin
abbrev lI:= @_root_.PySem.codeAny_mono
abbrev cV:= @_root_.congrArg
abbrev eG:= @_root_.decide_eq_false
abbrev lJ:= @_root_.decide_eq_true
abbrev jM:= @_root_.List.drop_drop
abbrev lK:= @_root_.List.drop_eq_getElem_cons
abbrev iW:= @_root_.List.drop_eq_nil_of_le
abbrev fK:= @_root_.List.drop_sublist
abbrev jN:= @_root_.LawfulBEq.eq_of_beq
abbrev bU:= @_root_.Bool.false_eq_true
abbrev oq:= @_root_.List.filterMap_cons
abbrev iX:= @_root_.List.find?_cons
abbrev ou:= @_root_.PySem.fits_of_scanBound
abbrev a_:= @_root_.PySem.Heap.get?_push_of_some
abbrev bL:= @_root_.PySem.Heap.get?_push_size
abbrev ig:= @_root_.PySem.Heap.get?_update_other
abbrev f5:= @_root_.PySem.Heap.get?_update_self
abbrev cM:= @_root_.Array.getD_eq_getD_getElem?
abbrev b8:= @_root_.List.getD_eq_getElem?_getD
abbrev e9:= @_root_.List.getElem?_append_left
abbrev ir:= @_root_.List.getElem?_append_right
abbrev bf:= @_root_.List.getElem?_eq_getElem
abbrev ow:= @_root_.Array.getElem?_eq_none
abbrev bD:= @_root_.List.getElem?_map
abbrev lM:= @_root_.List.getElem?_set_ne
abbrev lN:= @_root_.List.getElem?_set_self
abbrev dj:= @_root_.Array.getElem?_toList
abbrev bM:= @_root_.List.getElem_mem
abbrev f6:= @_root_.List.getElem_of_mem
abbrev bH:= @_root_.if_false
abbrev aj:= @_root_.if_neg
abbrev ai:= @_root_.if_pos
abbrev eH:= @_root_.if_true
abbrev eK:= @_root_.PySem.W.kia_one
abbrev iu:= @_root_.Nat.le_of_lt
abbrev aC:= @_root_.Nat.le_refl
abbrev cO:= @_root_.Nat.le_trans
abbrev bV:= @_root_.List.length_append
abbrev e_:= @_root_.List.length_cons
abbrev dY:= @_root_.List.length_drop
abbrev bA:= @_root_.List.length_map
abbrev gH:= @_root_.List.length_singleton
abbrev dZ:= @_root_.List.length_take
abbrev bu:= @_root_.Array.length_toList
abbrev dw:= @_root_.Nat.lt_irrefl
abbrev bO:= @_root_.Nat.lt_of_lt_of_le
abbrev d7:= @_root_.Nat.lt_or_ge
abbrev aP:= @_root_.PySem.Heap.lt_size
abbrev fc:= @_root_.Nat.lt_succ_of_lt
abbrev gI:= @_root_.Nat.lt_succ_self
abbrev f7:= @_root_.List.map_cons
abbrev iZ:= @_root_.Option.map_eq_some_iff
abbrev f9:= @_root_.List.map_map
abbrev aT:= @_root_.List.mem_append
abbrev i6:= @_root_.List.mem_append_left
abbrev d8:= @_root_.List.mem_append_right
abbrev aR:= @_root_.List.mem_cons
abbrev cz:= @_root_.List.mem_cons_of_mem
abbrev cP:= @_root_.List.mem_cons_self
abbrev i7:= @_root_.List.mem_filterMap
abbrev d9:= @_root_.List.mem_map
abbrev gJ:= @_root_.List.mem_of_getElem?
abbrev cF:= @_root_.List.mem_of_mem_drop
abbrev cA:= @_root_.List.mem_of_mem_take
abbrev ff:= @_root_.List.mem_range
abbrev bF:= @_root_.List.mem_singleton
abbrev i8:= @_root_.Nat.min_eq_left
abbrev iU:= @_root_.Nat.ne_of_gt
abbrev bz:= @_root_.Nat.ne_of_lt
abbrev fE:= @_root_.Nat.not_lt_zero
abbrev eW:= @_root_.List.not_mem_nil
abbrev eY:= @_root_.or_false
abbrev bS:= @_root_.List.pairwise_append
abbrev gC:= @_root_.List.pairwise_iff_getElem
abbrev jG:= @_root_.List.pairwise_map
abbrev gD:= @_root_.List.perm_append_comm
abbrev g6:= @_root_.Array.perm_iff_toList_perm
abbrev g7:= @_root_.PySem.plainId_quiet
abbrev jH:= @_root_.Nat.pow_le_pow_right
abbrev n6:= @_root_.List.reverse_append
abbrev lz:= @_root_.PySem.sizeLine_eq
abbrev cg:= @_root_.PySem.Heap.size_push
abbrev bT:= @_root_.List.size_toArray
abbrev cK:= @_root_.List.take_append_drop
abbrev fG:= @_root_.List.take_of_length_le
abbrev eZ:= @_root_.List.take_sublist
abbrev dg:= @_root_.Array.toList_append
abbrev jI:= @_root_.Array.toList_extract
abbrev jJ:= @_root_.Array.toList_push
abbrev n7:= @_root_.Array.toList_reverse
abbrev n8:= @_root_.PySem.wpAny_Call_Name_kw
abbrev lB:= @_root_.PySem.wpAny_attempt
abbrev aa:= @_root_.PySem.wpAny_bind
abbrev lC:= @_root_.PySem.wpAny_callSpecial?_slot
abbrev g8:= @_root_.PySem.wpAny_call_entry
abbrev n9:= @_root_.PySem.wpAny_fieldsOf
abbrev lD:= @_root_.PySem.wpAny_forIn_list
abbrev fV:= @_root_.PySem.wpAny_holding
abbrev oh:= @_root_.PySem.wpAny_isInstance
abbrev oi:= @_root_.PySem.wpAny_loadPart'
abbrev jK:= @_root_.PySem.wpAny_mono
abbrev dh:= @_root_.PySem.wpAny_newObj_type
abbrev lE:= @_root_.PySem.wpAny_passesOwn
abbrev ao:= @_root_.PySem.wpAny_pure
abbrev g9:= @_root_.PySem.wpAny_seqItems
abbrev lF:= @_root_.PySem.wpAny_setEntries_of
abbrev jL:= @_root_.PySem.wpAny_setField
abbrev fW:= @_root_.PySem.wpAny_setState_of
abbrev g_:= @_root_.PySem.wpAny_truthy_bool
abbrev oj:= @_root_.PySem.wpAny_tryCatch
abbrev lG:= @_root_.PySem.wpAny_updateSeq
abbrev au:= @_root_.PyProof.Rows.wpS_bind
abbrev di:= @_root_.PyProof.Rows.wpS_forRange
abbrev fX:= @_root_.PyProof.Rows.wpS_get
abbrev eF:= @_root_.PyProof.Rows.wpS_modify
abbrev aB:= @_root_.PyProof.Rows.wpS_pure
abbrev ck:= @_root_.Nat.zero_le
section
open PySem
abbrev aq:=Str->Option Value
abbrev aA:=Value->Shared->Prop
abbrev aF:=List (Addr×Obj)
end
section
open PySem PySem.Spec PyProof.Rows
namespace L2
abbrev Key:=Sum Int Str
def jt:Key->Value->Bool
 |.inl k,v=>Value.isInt k v
 |.inr x,v=>Value.isStrOf x v
def BG(w:World):Key->Int
 |.inl k=>hashInt k
 |.inr x=>hashStr w x
theorem gp:∀{k:Key} {v:Value},jt k v=true->(∃i t,k=Sum.inl i/\v=Value.int i t)\/(∃x t,k=Sum.inr x/\v=Value.str x t)
 |.inl i,v,h=>by
  obtain⟨t,e⟩:=Value.isInt_shape (k:=i) (v:=v) h;exact .inl ⟨i,t,rfl,e⟩
 |.inr x,v,h=>by
  obtain⟨t,e⟩:=Value.isStrOf_shape (x:=x) (v:=v) h;exact .inr ⟨x,t,rfl,e⟩
theorem BH(i:Int)(t:Tok):jt (.inl i) (.int i t)=true:=by simp[jt,Value.isInt]
theorem BI(x:Str)(t:Tok):jt (.inr x) (.str x t)=true:=by simp[jt,Value.isStrOf]
theorem BJ(a b:Int):decide ((Sum.inl a:Key)=Sum.inl b)=(a==b):=by
 by_cases e:a=b
 .subst e;simp
 .have h:¬(Sum.inl a:Key)=Sum.inl b:=λq=>e (Sum.inl.inj q)
  rw[eG h];exact(beq_eq_false_iff_ne.mpr e).symm
theorem BO(a b:Str):decide ((Sum.inr a:Key)=Sum.inr b)=decide (a=b):=by
 by_cases e:a=b
 .subst e;simp
 .have h:¬(Sum.inr a:Key)=Sum.inr b:=λq=>e (Sum.inr.inj q)
  rw[eG h,eG e]
theorem BK(a:Int)(b:Str):decide ((Sum.inl a:Key)=Sum.inr b)=false:=eG (λq=>nomatch q)
theorem BN(a:Str)(b:Int):decide ((Sum.inr a:Key)=Sum.inl b)=false:=eG (λq=>nomatch q)
def fS(prog:Program)(w:World):PySem.KeyKind prog w Key where
 is:=jt
 hash:=BG w
 inj:=λv a b ha hb=>by
  rcases gp ha with⟨i,t,rfl,rfl⟩|⟨x,t,rfl,rfl⟩
  .rcases gp hb with⟨j,u,rfl,e⟩|⟨y,u,rfl,e⟩
   .injection e with e1 _;rw[e1]
   .exact nomatch e
  .rcases gp hb with⟨j,u,rfl,e⟩|⟨y,u,rfl,e⟩
   .exact nomatch e
   .injection e with e1 _;rw[e1]
 byValue:=λk v h=>by
  rcases gp h with⟨i,t,rfl,rfl⟩|⟨x,t,rfl,rfl⟩<;>rfl
 pyHash:=λhv h=>by
  rcases gp hv with⟨i,t,rfl,rfl⟩|⟨x,t,rfl,rfl⟩
  .exact wpAny_pyHash_int h
  .exact wpAny_pyHash_str h
 eqBool:=λhu hv h=>by
  rcases gp hu with⟨i,t,rfl,rfl⟩|⟨x,t,rfl,rfl⟩
  .rcases gp hv with⟨j,u,rfl,rfl⟩|⟨y,u,rfl,rfl⟩
   .rw[BJ] at h;exact wpAny_eqBool_int h
   .rw[BK] at h;exact SeqAt.EqAt.int_str i t y u _ _ _ _ h
  .rcases gp hv with⟨j,u,rfl,rfl⟩|⟨y,u,rfl,rfl⟩
   .rw[BN] at h;exact SeqAt.EqAt.str_int x t j u _ _ _ _ h
   .rw[BO] at h;exact wpAny_eqBool_str h
 «strs»:=λk x t v h=>by
  rcases gp h with⟨i,u,rfl,e⟩|⟨y,u,rfl,e⟩
  .exact nomatch e
  .injection e with e1 _
   subst e1
   cases v<;>rfl
theorem Cn(prog:Program)(w:World)(i:Int)(t:Tok):(fS prog w).is (.inl i) (.int i t)=true:=BH i t
theorem Co(prog:Program)(w:World)(x:Str)(t:Tok):(fS prog w).is (.inr x) (.str x t)=true:=BI x t
inductive V where
 |aJ|bl (b:Bool)|int (i:Int)|str (x:Str)|fq (b:Array UInt8)|jn (b:UInt64)|ref (a:Addr)|ty (n:String)
 deriving DecidableEq
def RelV:V->Value->Prop
 |.aJ,u=>u=Value.none
 |.bl b,u=>u=Value.bool b
 |.int i,u=>∃t,u=Value.int i t
 |.str x,u=>∃t,u=Value.str x t
 |.fq b,u=>∃t,u=Value.bytes b t
 |.jn b,u=>∃t,u=Value.float b t
 |.ref a,u=>u=Value.ref a
 |.ty n,u=>u=Value.type n
abbrev Vals:List V->List Value->Prop:=Paired RelV
theorem Vals.length{xs:List V}{a:List Value}(r:Vals xs a):xs.length=a.length:=Paired.length r
theorem Vals.get:∀{xs:List V} {a:List Value} {i:Nat} {x:V},Vals xs a->xs[i]?=some x->∃u,a[i]?=some u/\RelV x u
 |_,_,_,_,.nil,e=>by simp at e
 |_,_,0,_,.cons r _,e=>by simp at e;subst e;exact⟨_,rfl,r⟩
 |_,_,i+1,x,.cons _ t,e=>by
  obtain⟨u,h1,h2⟩:=Vals.get (i:=i) (x:=x) t (by simpa using e);exact⟨u,by simpa using h1,h2⟩
theorem Vals.append:∀{xs ys:List V} {a ws:List Value},Vals xs a->Vals ys ws->Vals (xs++ys) (a++ws)
 |_,_,_,_,.nil,s=>s
 |_,_,_,_,.cons r t,s=>.cons r (Vals.append t s)
theorem Vals.take:∀{xs:List V} {a:List Value} (n:Nat),Vals xs a->Vals (xs.take n) (a.take n)
 |_,_,0,_=>.nil
 |_,_,_+1,.nil=>.nil
 |_,_,n+1,.cons r t=>.cons r (Vals.take n t)
theorem Vals.drop:∀{xs:List V} {a:List Value} (n:Nat),Vals xs a->Vals (xs.drop n) (a.drop n)
 |_,_,0,r=>r
 |_,_,_+1,.nil=>.nil
 |_,_,n+1,.cons _ t=>Vals.drop n t
def gf:Option V->Option Value->Prop
 |some v,some u=>RelV v u
 |none,none=>True
 |_,_=>False
def KV{κ:Type}:List (κ×V)->List (κ×Value)->Prop:=Paired λ(p:κ×V) (q:κ×Value)=>p.1=q.1/\RelV p.2 q.2
def kV:Key->V
 |.inl i=>.int i
 |.inr x=>.str x
def iD(h:Heap)(a:Addr)(items:Array Value):Prop:=∃n,h.get? a=some {cls:=.type "tuple",data:=.seq items n}
theorem iD.is{h:Heap}{a:Addr}{items:Array Value}(x:iD h a items):IsTup h a items:=let ⟨n,e⟩:=x;⟨_,e,rfl,n,rfl⟩
theorem iD.new(h:Heap)(items:Array Value):iD (h.push {cls:=.type "tuple",data:=.seq items}) h.objs.size items:=⟨0,bL _ rfl⟩
inductive HO where
 |lst (xs:List V)
 |tup (xs:List V)
 |dK (kvs:List (Key×V))|dT (kvs:List (List Key×V))
 |set (S:Int->Bool) (n:Nat)
 |ins (C dx:Addr) (fs:List (Str×V))
 |own (x:Addr)
 |xd (fs:List (Str×V))
 |met (f x:Addr)
 |qG (lo hi:Int)
 |bR (o:Obj) (u:HO)
 |fD (ps:Array Value)
 |ext (φ:Heap->Prop)
abbrev Hp:=Addr->Option HO
def upd(H:Hp)(a:Addr)(o:HO):Hp:=λb=>if b=a then some o else H b
theorem gZ{H:Hp}{a:Addr}{o:HO}:upd H a o a=some o:=by unfold upd;rw[ai rfl]
theorem bh{H:Hp}{a b:Addr}{o:HO}(h:b≠a):upd H a o b=H b:=by unfold upd;rw[aj h]
theorem c5{H:Hp}{a b:Addr}{o:HO}(h:H a=some o)(h':H b=none):a≠b:=by
 intro e;subst e;rw[h] at h';cases h'
section
variable(P:Program)(w:World)
def b9(H:Hp)(h:Heap)(a:Addr):HO->Prop
 | .lst xs=>xs.length<=sizeLine/\∃(its:List Value) (n:Nat),Vals xs its/\h.get? a=some {cls:= .type "list",data:= .seq its.toArray n}
 | .tup xs=>xs.length<=sizeLine/\∃its:List Value,Vals xs its/\iD h a its.toArray
 | .dK kvs=>kvs.length<=sizeLine/\(a==sysModules)=false/\∃vs,KV kvs vs/\h.DictOf (fS P w) a vs
 | .dT kvs=>kvs.length<=sizeLine/\(a==sysModules)=false/\∃xs:List (List Key×Addr×Value),
  Paired (λ(p:List Key×V) (q:List Key×Addr×Value)=>p.1=q.1/\H q.2.1=some (.tup (p.1.map kV))/\RelV p.2 q.2.2) kvs xs/\
  ∃o es ep,h.get? a=some o/\o.ExactDict/\o.data= .dict es ep/\es.toList=xs.map (entryOfKey (tupleKind (fS P w)))/\(xs.map (·.1)).Nodup
 | .set S n=>h.SetOf (intKind P w) a S n
 | .ins C dx fs=>H dx=some (.own a)/\fs.length<=1000/\dx≠a/\h.get? a=some (instObj C dx)/\
  ∃mA,h.Ns1 dx mA/\(∀f,gf (fs.lookup f) (mA f))/\PySem.Within mA (fs.map (·.1))
 | .own _=>∃o,h.get? a=some o
 | .xd fs=>∃mA,h.Ns1 a mA/\∀f,gf (fs.lookup f) (mA f)
 | .qG lo hi=>∃t u v,h.get? a=some {cls:= .type "range",data:= .fields #[.int lo t,.int hi u,.int 1 v]}
 | .bR o u=>h.get? a=some o/\b9 H h a u
 | .fD ps=>h.get? a=some {cls:= .none,data:= .fields ps}
 | .met f x=>h.get? a=some (methodObj (.ref f) (.ref x))
 | .ext φ=>φ h/\(∃o,h.get? a=some o)/\∀h1 h2:Heap,φ h1->(∀o,h1.get? a=some o->h2.get? a=some o)->φ h2
def bB(H:Hp)(h:Heap):Prop:=∀a o,H a=some o->b9 P w H h a o
end
section
variable{P:Program}{w:World}{H H':Hp}{h h':Heap}{a:Addr}{o:HO}
theorem b9.lt(x:b9 P w H h a o):a<h.objs.size:=by
 cases o with
 |lst xs=>obtain⟨_,_,_,_,e⟩:=x;exact aP e
 |tup xs=>obtain⟨_,_,_,p⟩:=x;exact p.is.lt
 |dK kvs=>obtain⟨_,_,_,_,o,_,_,e,_⟩:=x;exact aP e
 |dT kvs=>obtain⟨_,_,_,_,o,_,_,e,_⟩:=x;exact aP e
 |set S n=>obtain⟨o,_,_,_,e,_⟩:=x;exact aP e
 |ins C dx fs=>obtain⟨_,_,_,e,_⟩:=x;exact aP e
 |own y=>obtain⟨_,e⟩:=x;exact aP e
 |xd fs=>obtain⟨_,⟨_,_,_,e,_⟩,_⟩:=x;exact aP e
 |qG lo hi=>obtain⟨_,_,_,e⟩:=x;exact aP e
 |bR b u=>obtain⟨e,_⟩:=x;exact aP e
 |fD ps=>exact aP (show h.get? a=some _ from x)
 |met f y=>exact aP (show h.get? a=some _ from x)
 |ext c=>obtain⟨_,⟨_,e⟩,_⟩:=x;exact aP e
theorem Paired.uU{α β:Type}{F G:α->β->Prop}:∀{c:List α} {d:List β},Paired F c d->(∀a b,F a b->G a b)->Paired G c d
 |_,_,.nil,_=>.nil
 |_,_,.cons r t,f=>.cons (f _ _ r) (Paired.uU t f)
theorem b9.stay(x:b9 P w H h a o)(k:∀b u,(b=a\/H b=some (.own a))->h.get? b=some u->h'.get? b=some u)
  (l:∀b,H b=some (.own a)->H' b=some (.own a))(m:∀b xs,H b=some (.tup xs)->H' b=some (.tup xs)):b9 P w H' h' a o:=by
 induction o with
 |lst xs=>obtain⟨z,its,n,r,e⟩:=x;exact⟨z,its,n,r,k _ _ (.inl rfl) e⟩
 |tup xs=>obtain⟨z,its,r,n,e⟩:=x;exact⟨z,its,r,n,k _ _ (.inl rfl) e⟩
 |dK kvs=>obtain⟨z,y,vs,r,g,es,ep,e,c⟩:=x;exact⟨z,y,vs,r,g,es,ep,k _ _ (.inl rfl) e,c⟩
 |dT kvs=>
  obtain⟨z,y,xs,r,g,es,ep,e,c⟩:=x;exact⟨z,y,xs,Paired.uU r λp q z=>⟨z.1,m _ _ z.2.1,z.2.2⟩,g,es,ep,k _ _ (.inl rfl) e,c⟩
 |set S n=>obtain⟨g,es,ep,t,e,c⟩:=x;exact⟨g,es,ep,t,k _ _ (.inl rfl) e,c⟩
 |ins C dx fs=>
  obtain⟨d,z,ne,e,i,⟨j,es,ep,s,c⟩,r⟩:=x;exact⟨l _ d,z,ne,k _ _ (.inl rfl) e,i,⟨j,es,ep,k _ _ (.inr d) s,c⟩,r⟩
 |own y=>obtain⟨g,e⟩:=x;exact⟨g,k _ _ (.inl rfl) e⟩
 |xd fs=>obtain⟨i,⟨j,es,ep,e,c⟩,r⟩:=x;exact⟨i,⟨j,es,ep,k _ _ (.inl rfl) e,c⟩,r⟩
 |qG lo hi=>obtain⟨t,u,v,e⟩:=x;exact⟨t,u,v,k _ _ (.inl rfl) e⟩
 |bR g u A=>obtain⟨e,q⟩:=x;exact⟨k _ _ (.inl rfl) e,A q⟩
 |fD ps=>
  have e:h.get? a=some {cls:=.none,data:=.fields ps}:=x;show h'.get? a=some {cls:=.none,data:=.fields ps};exact k a _ (.inl rfl) e
 |met f y=>
  have e:h.get? a=some (methodObj (.ref f) (.ref y)):=x;show h'.get? a=some (methodObj (.ref f) (.ref y));exact k a _ (.inl rfl) e
 |ext B=>obtain⟨p,⟨o,e⟩,st⟩:=x;exact⟨st _ _ p λo q=>k _ _ (.inl rfl) q,⟨o,k _ _ (.inl rfl) e⟩,st⟩
theorem bB.lt(x:bB P w H h)(e:H a=some o):a<h.objs.size:=(x a o e).lt
theorem bB.fresh(x:bB P w H h)(e:h.objs.size<=a):H a=none:=by
 cases q:H a with
 |none=>rfl
 |some u=>exact absurd (bO (x.lt q) e) (dw _)
theorem bB.kept(x:bB P w H h)(k:∀b u,h.get? b=some u->h'.get? b=some u):bB P w H h':=λa o e=>
 (x a o e).stay (λb u _ q=>k b u q) (λ_ q=>q) λ_ _ q=>q
theorem bB.laid(x:bB P w H h)(k:∀b u,h.get? b=some u->h'.get? b=some u)(f:h.objs.size<=a)(new:b9 P w (upd H a o) h' a o):bB P w (upd H a o) h':=λb u e=>by
 have hn:=x.fresh f;by_cases d:b=a
 .subst d;rw[gZ] at e;cases e;exact new
 .rw[bh d] at e
  exact(x b u e).stay (λc v _ q=>k c v q) (λc q=>by rw[bh (c5 q hn)];exact q) λc xs q=>by rw[bh (c5 q hn)];exact q
end
def Rd(H:Hp)(a:Addr)(u:HO):Prop:=H a=some u\/∃o,H a=some (.bR o u)
theorem Rd.ok{P:Program}{w:World}{H:Hp}{h:Heap}{a:Addr}{u:HO}(r:Rd H a u)(x:bB P w H h):b9 P w H h a u:=by
 rcases r with r|⟨o,r⟩
 .exact x a u r
 .obtain⟨_,q⟩:=x a _ r
  exact q
def lS:Option HO->Prop
 |some (.lst _)=>True
 |some (.dK _)=>True
 |some (.dT _)=>True
 |some (.set _ _)=>True
 |some (.ins _ _ _)=>True
 |some (.ext _)=>True
 |_=>False
section
variable{P:Program}{w:World}{H:Hp}{h h':Heap}{x e:Addr}{o':HO}
theorem bB.write(ok:bB P w H h)(g:lS (H x))(l:e=x\/H e=some (.own x))(k:∀b u,b≠e->h.get? b=some u->h'.get? b=some u)(j:∃u,h'.get? e=some u)
  (new:b9 P w (upd H x o') h' x o'):bB P w (upd H x o') h':=λb u q=>by
 have d:∀c y,H c=some (.own y)->c≠x:=λc y r z=>by subst z;rw[r] at g;exact g
 have f:∀c xs,H c=some (.tup xs)->c≠x:=λc xs r z=>by subst z;rw[r] at g;exact g
 by_cases i:b=x
 .subst i;rw[gZ] at q;cases q;exact new
 .rw[bh i] at q
  by_cases a:b=e
  .have m:H b=some (.own x):=by
    rcases l with z|z
    .exact absurd (a.trans z) i
    .rw[a];exact z
   rw[q] at m;cases m;obtain⟨v,n⟩:=j;exact⟨v,by rw[a];exact n⟩
  .refine(ok b u q).stay (λc v hc r=>k c v ?_ r) (λc r=>by rw[bh (d c b r)];exact r) λc xs r=>by rw[bh (f c xs r)];exact r
   rcases hc with rfl|hc
   .exact a
   .rintro rfl
    rcases l with z|z
    .exact d c b hc z
    .rw[hc] at z;cases z;exact i rfl
end
structure Un(fs ex:List Addr)(H H':Hp)(h h':Heap):Prop where
 keep:∀b o,h.get? b=some o->H b=none->b∉fs->b∉ex->h'.get? b=some o
 slot:∀b o,h.get? b=some o->H b=none->b∈fs->b∉ex->∃sl,h'.get? b=some {o with slots:=sl}
 free:∀b o,h.get? b=some o->H b=none->b∉ex->H' b=none
 there:∀b o,h.get? b=some o->b∉ex->∃o',h'.get? b=some o'
 tups:∀b xs,H b=some (.tup xs)->H' b=some (.tup xs)
 dR:∀b o u,H b=some (.bR o u)->H' b=some (.bR o u)
 eB:∀b ps,H b=some (.fD ps)->∃more,H' b=some (.fD (ps++more))
section
variable{fs fs' ex ex':List Addr}{H H1 H2:Hp}{h h1 h2 h':Heap}{a x e:Addr}{o:HO}
theorem Un.any(u:Un fs ex H H1 h h1){b:Addr}{a:Obj}(q:h.get? b=some a)(n:H b=none)(c:b∉ex):∃e,h1.get? b=some {a with slots:=e}:=by
 by_cases d:b∈fs
 .exact u.slot b a q n d c
 .exact⟨a.slots,u.keep b a q n d c⟩
theorem Un.kept(k:∀b u,h.get? b=some u->h'.get? b=some u):Un fs ex H H h h':=
 ⟨λb a q _ _ _=>k b a q,λb a q _ _ _=>⟨a.slots,k b a q⟩,λ_ _ _ n _=>n,λb a q _=>⟨a,k b a q⟩,λ_ _ q=>q,λ_ _ _ q=>q,λ_ ps q=>⟨#[],by rw[q];simp⟩⟩
theorem Un.refl:Un fs ex H H h h:=Un.kept λ_ _ q=>q
theorem Un.laid(k:∀b u,h.get? b=some u->h'.get? b=some u)(c:h.objs.size<=a)(hn:H a=none):Un fs ex H (upd H a o) h h' where
 keep:=λb u q _ _ _=>k b u q
 slot:=λb u q _ _ _=>⟨u.slots,k b u q⟩
 free:=λb u q n _=>by rw[bh (bz (bO (aP q) c))];exact n
 there:=λb u q _=>⟨u,k b u q⟩
 tups:=λb xs q=>by rw[bh (c5 q hn)];exact q
 dR:=λb u xs q=>by rw[bh (c5 q hn)];exact q
 eB:=λb ps q=>⟨#[],by rw[bh (c5 q hn),q];simp⟩
theorem Un.write(c:lS (H x))(j:e=x\/H e=some (.own x))(k:∀b u,b≠e->h.get? b=some u->h'.get? b=some u)(d:∃u,h'.get? e=some u):Un fs ex H (upd H x o) h h':=by
 have g:∀b,H b=none->b≠x:=λb n z=>by subst z;rw[n] at c;exact c
 have i:∀b,H b=none->b≠e:=λb n z=>by
  subst z;rcases j with r|r
  .exact g b n r
  .rw[n] at r;cases r
 have f:∀b u,H b=some u->¬lS (some u)->b≠x:=λb u q nm z=>by subst z;rw[q] at c;exact nm c
 refine⟨λb u q n _ _=>k b u (i b n) q,λb u q n _ _=>⟨u.slots,k b u (i b n) q⟩,λb u q n _=>by rw[bh (g b n)];exact n,λb u q _=>?_,
  λb xs q=>by rw[bh (f b _ q λz=>z)];exact q,λb u xs q=>by rw[bh (f b _ q λz=>z)];exact q,λb ps q=>⟨#[],by rw[bh (f b _ q λz=>z),q];simp⟩⟩
 by_cases a:b=e
 .subst a;exact d
 .exact⟨u,k b u a q⟩
end
def nR(h:Heap)(H:Hp):List Addr:=(range h.objs.size).filter λa=>(H a).isSome
def gm(h:Heap)(H:Hp):Heap:=hideAll h (nR h H)
theorem AW(h:Heap)(H:Hp):(gm h H).objs.size=h.objs.size:=PySem.W.hideAll_size _ _
theorem AV{h:Heap}{H:Hp}{b:Addr}{o:Obj}(e:h.get? b=some o)(n:H b=none):(gm h H).get? b=some o:=
 hideAll_get _ e λa=>by
  have q:(H b).isSome=true:=(mem_filter.mp a).2;rw[n] at q;simp at q
theorem CT{h:Heap}{H:Hp}{b:Addr}{o:Obj}(e:(gm h H).get? b=some o):h.get? b=some o/\H b=none:=by
 have a:h.get? b=some o:=of_hideAll (nR h H) e;refine⟨a,?_⟩;cases q:H b with
 |none=>rfl
 |some x=>
  have c:b∈nR h H:=mem_filter.mpr ⟨ff.mpr (aP a),by simp[q]⟩;have z:(gm h H).get? b=none:=PySem.W.hideAll_none (nR h H) c;rw[z] at e;cases e
structure Mod(K:Frag)(mg:aq)(base:Heap):Prop where
 mP:K.In base
 glob:base.Ns mainGlobals mg
 blt:∃mb,base.Ns builtinsNs mb/\∀x:Str,x≠"__name__"->mb x=bootBuiltins x
 nolimit:base.NoLimit
structure Cx where
 prog:Program
 w:World
 K:Frag
 mg:aq
 base:Heap
 A:Around
 N:List Str
 s₀:Shared
 H₀:Hp
 env:Env
 outer:List Env
 stack:List Env
 ex:List Addr
 fn:Str->Bool
 calm:Bool
 pn:aF
 xe:aA
def frs(l:List Env):List Addr:=l.filterMap (·.frame)
abbrev Cx.fs(X:Cx):List Addr:=frs X.outer
def j4(sc:Scope)(x:Str):Prop:=sc.names.lookup x=some .local\/sc.names.lookup x=some .cell\/sc.names.lookup x=some .free
def Loc(sc:Scope)(x:Str):Prop:=sc.names.lookup x=some .local\/sc.names.lookup x=some .cell
def Look(env:Env)(h:Heap)(m:aq)(x:Str)(u:Value):Prop:=
 (env.kindOf x=some .local/\m x=some u)\/((env.kindOf x=some .cell\/env.kindOf x=some .free)/\∃c,env.cells.lookup x=some c/\h.IsCell c (some u))
structure Cx.Ok(X:Cx):Prop where
 mod:Mod X.K X.mg X.base
 kind:X.env.scope.kind= .function
 glob:X.env.globals=mainGlobals
 blt:X.env.builtins=builtinsNs
 above:X.s₀.heap.objs.size<=X.env.locals
 inj:∀x y c,X.env.cells.lookup x=some c->X.env.cells.lookup y=some c->x=y
 has:∀x,(X.env.kindOf x=some .cell\/X.env.kindOf x=some .free)->∃c,X.env.cells.lookup x=some c
 l8:∀x c,X.fn x=true->X.env.cells.lookup x=some c->X.s₀.heap.objs.size<=c
 hd:X.calm=true->X.A.handled=none
 frames:X.A.frames=some X.stack
 stk:X.stack=X.outer\/(X.stack=X.env::X.outer/\X.env.frame=some X.env.locals)
 Ab:∀b∈X.ex,b≠X.env.locals/\∀x c,X.env.cells.lookup x=some c->c≠b
 bs:∀b o,X.base.get? b=some o->X.s₀.heap.get? b=some o/\X.H₀ b=none
 iE:X.base.objs.size<=X.s₀.heap.objs.size
 nc:∀b o,X.base.get? b=some o->b∉X.ex
 pN:∀b∈X.ex,b∉X.fs
 fQ:X.s₀.heap.FunFrames X.base X.outer
 jo:∀b∈X.fs,X.H₀ b=none
structure Inv(X:Cx)(pins:aF)(σ:List (Option V))(H:Hp)(s:Shared):Prop where
 ok:X.Ok
 os:s.os=X.s₀.os
 bare:AllBare s.gens
 base:Un X.fs X.ex X.H₀ H X.s₀.heap s.heap
 loc:∃m,s.heap.Ns X.env.locals m/\∀(i:Nat) (x:Str) (v:V),X.N[i]? =some x->σ[i]? =some (some v)->j4 X.env.scope x->∃u,RelV v u/\Look X.env s.heap m x u
 cell:∀x c,X.env.cells.lookup x=some c->∃v,s.heap.IsCell c v
 free:H X.env.locals=none
 gk:∀x c,X.env.cells.lookup x=some c->H c=none
 pin:∀p∈X.pn++pins,s.heap.get? p.1=some p.2/\H p.1=none/\p.1≠X.env.locals/\p.1∉X.fs/\∀v,p.2.data≠ .cell v
 hok:bB X.prog X.w H s.heap
 len:σ.length=X.N.length
section
variable{X:Cx}{pins:aF}{σ:List (Option V)}{H H':Hp}{s:Shared}{h':Heap}
theorem Cx.Ok.iR(ok:X.Ok){b:Addr}{o:Obj}(e:X.base.get? b=some o):b∉X.fs:=λa=>by
 have:=(ok.fQ.mem a).1;rw[e] at this;cases this
theorem Inv.bs(I:Inv X pins σ H s):∀b o,X.base.get? b=some o->s.heap.get? b=some o/\H b=none:=λb o e=>
 ⟨I.base.keep b o (I.ok.bs b o e).1 (I.ok.bs b o e).2 (I.ok.iR e) (I.ok.nc b o e),I.base.free b o (I.ok.bs b o e).1 (I.ok.bs b o e).2 (I.ok.nc b o e)⟩
theorem Inv.bk(I:Inv X pins σ H s):∀b o,X.base.get? b=some o->s.heap.get? b=some o:=λb o e=>(I.bs b o e).1
theorem Inv.mod(I:Inv X pins σ H s):Mod X.K X.mg X.base:=I.ok.mod
theorem Inv.cH(I:Inv X pins σ H s):X.K.In s.heap:=I.ok.mod.mP.keeps I.bk
theorem Inv.lt(I:Inv X pins σ H s):X.env.locals<s.heap.objs.size:=let ⟨_,hn,_⟩:=I.loc;hn.lt
theorem Inv.sz(I:Inv X pins σ H s):X.s₀.heap.objs.size<=s.heap.objs.size:=cO I.ok.above (iu I.lt)
theorem Inv.CJ(I:Inv X pins σ H s){a:Addr}(h:s.heap.objs.size<=a):a∉X.fs:=λb=>by
 obtain⟨_,o,c,_⟩:=I.ok.fQ.mem b;exact absurd (bO (aP c) (cO I.sz h)) (dw _)
theorem Inv.iF(I:Inv X pins σ H s):∀x c,X.env.cells.lookup x=some c->c≠X.env.locals:=λx c e z=>by
 obtain⟨v,o,d,hd⟩:=I.cell x c e;obtain⟨m,⟨o',es,ep,a,b,_⟩,_⟩:=I.loc;rw[z,a] at d;cases d;rw[b] at hd;cases hd
theorem Inv.fQ(I:Inv X pins σ H s):s.heap.FunFrames X.base X.outer:=by
 have all:∀(l:List Env),(∀b∈frs l,b∈X.fs)->X.s₀.heap.FunFrames X.base l->s.heap.FunFrames X.base l:=by
  intro l;induction l with
  |nil=>intro _ _;trivial
  |cons env r f=>
   intro hs g;obtain⟨hk,⟨L,o,a,hn,h,hd⟩,i⟩:=g;have c:L∈X.fs:=hs L (by unfold frs;rw[oq,a];exact cP);obtain⟨j,e⟩:=I.base.slot L o h (I.ok.jo L c) c λz=>I.ok.pN L z c;exact⟨hk,⟨L,_,a,hn,e,hd⟩,f (λb d=>hs b (by unfold frs;rw[oq,a];exact cz _ d)) i⟩
 exact all X.outer (λ_ d=>d) I.ok.fQ
theorem Inv.stack(I:Inv X pins σ H s):s.heap.FunFrames X.base X.stack:=by
 rcases I.ok.stk with e|⟨e,a⟩
 .rw[e];exact I.fQ
 .rw[e]
  obtain⟨m,hn,_⟩:=I.loc;refine .cons (by rw[I.ok.kind];decide) a hn ?_ I.fQ;exact Heap.get?_none_of_le (cO I.ok.iE I.ok.above)
theorem Inv.jC(I:Inv X pins σ H s):∀b∈frs X.stack,b∈X.env.locals::X.fs:=λb a=>by
 rcases I.ok.stk with e|⟨e,c⟩
 .rw[e] at a;exact cz _ a
 .rw[e] at a
  unfold frs at a;rw[oq,c] at a;exact a
theorem Inv.qJ(I:Inv X pins σ H s):∀b∈frs X.stack,H b=none:=λb hb=>by
 rcases aR.mp (I.jC b hb) with e|hb
 .rw[e];exact I.free
 .obtain⟨_,o,a,_⟩:=I.ok.fQ.mem hb
  exact I.base.free b o a (I.ok.jo b hb) λz=>I.ok.pN b z hb
theorem Inv.step{g':Array GenState}{t':Nat}{d':Drawn}{ch:List Addr}(I:Inv X pins σ H s)
  (f:∀b∈ch,(b∈X.ex\/X.s₀.heap.objs.size<=b)/\b≠X.env.locals/\(∀x c,X.env.cells.lookup x=some c->c≠b)/\∀p∈X.pn++pins,p.1≠b)
  (keep:∀b o,b≠X.env.locals->b∉X.fs->b∉ch->s.heap.get? b=some o->H b=none->h'.get? b=some o)
  (slot:∀b o,b≠X.env.locals->b∈X.fs->b∉ch->s.heap.get? b=some o->H b=none->∃C,h'.get? b=some {o with slots:=C})(free:∀b o,b∉ch->s.heap.get? b=some o->H b=none->H' b=none)
  (there:∀b o,b∉ch->s.heap.get? b=some o->∃o',h'.get? b=some o')
  (tups:∀b xs,H b=some (.tup xs)->H' b=some (.tup xs))(dR:∀b o u,H b=some (.bR o u)->H' b=some (.bR o u))(eB:∀b ps,H b=some (.fD ps)->∃more,H' b=some (.fD (ps++more)))
  (ns:∀m,s.heap.Ns X.env.locals m->h'.Ns X.env.locals m)(hok:bB X.prog X.w H' h')(G:AllBare g'):
  Inv X pins σ H' {s with heap:=h',gens:=g',drawn:=d',toks:=t'}:=by
 have A:∀b o,X.s₀.heap.get? b=some o->b≠X.env.locals:=λb o e=>bz (bO (aP e) I.ok.above)
 have h:∀b o,X.s₀.heap.get? b=some o->b∉X.ex->b∉ch:=λb o e a t=>by
  rcases (f b t).1 with z|z
  .exact a z
  .exact absurd (bO (aP e) z) (dw _)
 have cellK:∀x c,X.env.cells.lookup x=some c->∀v,s.heap.IsCell c v->h'.IsCell c v:=λx c e v ⟨o,y,hd⟩=>by
  have g:c∉ch:=λz=>(f c z).2.2.1 x c e rfl
  by_cases hc:c∈X.fs
  .obtain⟨C,q⟩:=slot c o (I.iF x c e) hc g y (I.gk x c e)
   exact⟨_,q,hd⟩
  .exact⟨o,keep c o (I.iF x c e) hc g y (I.gk x c e),hd⟩
 refine⟨I.ok,I.os,G,⟨λb o e n t a=> ?_,λb o e n t a=> ?_,λb o e n a=> ?_,λb o e a=> ?_,λb xs e=>tups b xs (I.base.tups b xs e),λb o xs e=>dR b o xs (I.base.dR b o xs e),λb ps e=> ?_⟩,?_,λx c e=> ?_,?_,λx c e=> ?_,λp E=> ?_,hok,I.len⟩
 .exact keep b o (A b o e) t (h b o e a) (I.base.keep b o e n t a) (I.base.free b o e n a)
 .obtain⟨C,j⟩:=I.base.slot b o e n t a
  obtain⟨D,B⟩:=slot b _ (A b o e) t (h b o e a) j (I.base.free b o e n a)
  exact⟨D,B⟩
 .obtain⟨o',j⟩:=I.base.there b o e a
  exact free b o' (h b o e a) j (I.base.free b o e n a)
 .obtain⟨o',j⟩:=I.base.there b o e a
  exact there b o' (h b o e a) j
 .obtain⟨J,j⟩:=I.base.eB b ps e
  obtain⟨K,B⟩:=eB b _ j
  exact⟨J++K,by rw[B,Array.append_assoc]⟩
 .obtain⟨m,hn,L⟩:=I.loc
  refine⟨m,ns m hn,λi x v j B M=> ?_⟩
  obtain⟨u,r,l⟩:=L i x v j B M
  refine⟨u,r,?_⟩
  rcases l with l|⟨k,c,e,z⟩
  .exact .inl l
  .exact .inr ⟨k,c,e,cellK x c e _ z⟩
 .obtain⟨v,z⟩:=I.cell x c e
  exact⟨v,cellK x c e v z⟩
 .obtain⟨m,⟨o,_,_,y,_⟩,_⟩:=I.loc
  exact free _ o (λz=>(f _ z).2.1 rfl) y I.free
 .obtain⟨v,o,y,hd⟩:=I.cell x c e
  exact free c o (λz=>(f c z).2.2.1 x c e rfl) y (I.gk x c e)
 .obtain⟨e,n,ne,F,d⟩:=I.pin p E
  have g:p.1∉ch:=λz=>(f p.1 z).2.2.2 p E rfl
  exact⟨keep p.1 p.2 ne F g e n,free p.1 p.2 g e n,ne,F,d⟩
theorem Inv.un{t':Nat}(I:Inv X pins σ H s)(u:Un X.fs [] H H' s.heap h')(hok:bB X.prog X.w H' h'):Inv X pins σ H' {s with heap:=h',toks:=t'}:=by
 obtain⟨m,⟨o,es,ep,g,r⟩,_⟩:=id I.loc;obtain⟨j,h⟩:=u.any g I.free (by simp);exact I.step (g':=s.gens) (d':=s.drawn) (ch:=[]) (λ_ z=>nomatch z) (λb o _ c _ e n=>u.keep b o e n c (by simp)) (λb o _ c _ e n=>u.slot b o e n c (by simp)) (λb o _ e n=>u.free b o e n (by simp)) (λb o _ e=>u.there b o e (by simp)) u.tups u.dR u.eB (λk i=>by
  obtain⟨o',d,f,a,r'⟩:=i;rw[g] at a;cases a;exact⟨_,d,f,h,r'⟩) hok I.bare
theorem Inv.call{g':Array GenState}{t':Nat}{d':Drawn}{ch:List Addr}(I:Inv X pins σ H s)(u:Un (frs X.stack) ch H H' s.heap h')(hok:bB X.prog X.w H' h')(j:AllBare g')
  (a:∀b∈ch,(b∈X.ex\/X.s₀.heap.objs.size<=b)/\b≠X.env.locals/\(∀x c,X.env.cells.lookup x=some c->c≠b)/\∀p∈X.pn++pins,p.1≠b):
  Inv X pins σ H' {s with heap:=h',gens:=g',drawn:=d',toks:=t'}:=by
 obtain⟨m,⟨o,es,ep,i,r⟩,_⟩:=id I.loc;obtain⟨q,f⟩:=u.any i I.free λz=>(a _ z).2.1 rfl;exact I.step (ch:=ch) a (λb o f k hc e n=>u.keep b o e n (λz=>(aR.mp (I.jC b z)).elim f k) hc) (λb o _ _ hc e n=>u.any e n hc) (λb o hc e n=>u.free b o e n hc) (λb o hc e=>u.there b o e hc) u.tups u.dR u.eB (λt l=>by
  obtain⟨o',g,h,d,r'⟩:=l;rw[i] at d;cases d;exact⟨_,g,h,f,r'⟩) hok j
theorem Inv.turned{t':Nat}{it:Addr}(I:Inv X pins σ H s)(k:∀b o,b≠it->s.heap.get? b=some o->h'.get? b=some o)(hn:H it=none)(d:it≠X.env.locals)
  (h1:it∈X.ex\/X.s₀.heap.objs.size<=it)(h2:∀x c,X.env.cells.lookup x=some c->c≠it)(h3:∀p∈X.pn++pins,p.1≠it):Inv X pins σ H {s with heap:=h',toks:=t'}:=by
 have a:∀b u,H b=some u->b≠it:=λb u e z=>by rw[z,hn] at e;cases e
 refine I.step (g':=s.gens) (d':=s.drawn) (ch:=[it]) (λb f=>?_) (λb o _ _ hc e _=>k b o (λz=>hc (by simp[z])) e) (λb o _ _ hc e _=>⟨o.slots,k b o (λz=>hc (by simp[z])) e⟩) (λ_ _ _ _ n=>n)
  (λb o hc e=>⟨o,k b o (λz=>hc (by simp[z])) e⟩) (λ_ _ e=>e) (λ_ _ _ e=>e) (λb ps e=>⟨#[],by rw[e];simp⟩) (λm g=>?_) (λb u e=>?_) I.bare
 .have e:b=it:=by simpa using f
  subst e;exact⟨h1,d,h2,h3⟩
 .obtain⟨o,es,ep,h,r⟩:=g
  exact⟨o,es,ep,k _ o (Ne.symm d) h,r⟩
 .refine(I.hok b u e).stay (λc v hc q=>k c v ?_ q) (λ_ q=>q) λ_ _ q=>q
  rcases hc with z|z
  .rw[z];exact a b u e
  .exact a c _ z
theorem Inv.tok(I:Inv X pins σ H s)(t:Nat):Inv X pins σ H {s with toks:=t}:=I.un (h':=s.heap) (t':=t) Un.refl I.hok
theorem Inv.kept{t':Nat}(I:Inv X pins σ H s)(k:∀b u,s.heap.get? b=some u->h'.get? b=some u):Inv X pins σ H {s with heap:=h',toks:=t'}:=I.un (Un.kept k) (I.hok.kept k)
theorem Inv.laid{a:Addr}{o:HO}{t':Nat}(I:Inv X pins σ H s)(k:∀b u,s.heap.get? b=some u->h'.get? b=some u)(c:s.heap.objs.size<=a)(new:b9 X.prog X.w (upd H a o) h' a o):
 Inv X pins σ (upd H a o) {s with heap:=h',toks:=t'}:=I.un (Un.laid k c (I.hok.fresh c)) (I.hok.laid k c new)
theorem Inv.write{x e:Addr}{o:HO}{t':Nat}(I:Inv X pins σ H s)(c:lS (H x))(d:e=x\/H e=some (.own x))(k:∀b u,b≠e->s.heap.get? b=some u->h'.get? b=some u)(a:∃u,h'.get? e=some u)
 (new:b9 X.prog X.w (upd H x o) h' x o):Inv X pins σ (upd H x o) {s with heap:=h',toks:=t'}:=I.un (Un.write c d k a) (I.hok.write c d k a new)
theorem Inv.weak{σ':List (Option V)}(I:Inv X pins σ H s)(b:σ'.length=σ.length)(w:∀(i:Nat) v,σ'[i]?=some (some v)->σ[i]?=some (some v)):Inv X pins σ' H s:=
 ⟨I.ok,I.os,I.bare,I.base,let ⟨m,hn,a⟩:=I.loc;⟨m,hn,λi x v c d e=>a i x v c (w i v d) e⟩,I.cell,I.free,I.gk,I.pin,I.hok,b.trans I.len⟩
theorem Inv.vC{a:aF}(I:Inv X pins σ H s)(h:∀p∈a,s.heap.get? p.1=some p.2/\H p.1=none/\p.1≠X.env.locals/\p.1∉X.fs/\∀v,p.2.data≠ .cell v):Inv X a σ H s:=
 ⟨I.ok,I.os,I.bare,I.base,I.loc,I.cell,I.free,I.gk,λp b=>(aT.mp b).elim (λz=>I.pin p (i6 _ z)) (h p),I.hok,I.len⟩
theorem u_{N:List Str}(c:N.Nodup){i j:Nat}{x:Str}(a:N[i]?=some x)(b:N[j]?=some x):i=j:=by
 obtain⟨h1,d⟩:=b6.mp a;obtain⟨h2,e⟩:=b6.mp b;exact(List.getElem_inj c).mp (d.trans e.symm)
theorem Fc {M : Model} {A : Around} {E : aA} {i : Nat} {x : Str} {v : V} {u : Value} {Q : Unit → Shared → Prop} (I : Inv X pins σ H s) (hN : X.N.Nodup) (hi : X.N[i]? = some x) (g : Loc X.env.scope x) (r : RelV v u)
    (h : ∀ s', Inv X pins (σ.set i (some v)) H s' → (∃ a, SameBut a s.heap s'.heap ∧ (a = X.env.locals ∨ X.env.cells.lookup x = some a)) → Q () s') (hf : X.fn x = true ∨ X.env.scope.names.lookup x = some .local := by first | exact .inl rfl | exact .inr rfl | assumption) : wpAny M A (storeName X.env x u) Q E s := by
  obtain ⟨m, hn, hl⟩ := id I.loc
  have G : (X.env.scope.kind == .class || (X.env.scope.kind == .module && X.env.locals != X.env.globals)) = false := by rw [I.ok.kind]; rfl
  have B : i < σ.length := by rw [I.len]; exact (b6.mp hi).1
  have iF := I.iF
  have tracked : ∀ {a : Addr} {h' : Heap}, (∃ o, s.heap.get? a = some o ∧ H a = none) → SameBut a s.heap h' → bB X.prog X.w H h' := fun {a h'} ha hs b ob e => by
    obtain ⟨_, _, l⟩ := ha
    refine (I.hok b ob e).stay (fun c P hc q => (hs.2 c ?_).trans q) (fun _ q => q) fun _ _ q => q
    rintro rfl
    rcases hc with rfl | hc
    · rw [l] at e; cases e
    · rw [l] at hc; cases hc
  rcases g with hk | hk
  · refine wpAny_storeName_local hk hn (fun h' R hs => ?_) G
    obtain ⟨oL, _, _, S, _⟩ := id hn
    refine h _ ⟨I.ok, I.os, I.bare, ⟨fun b o e n C g => ?_, fun b o e n C g => ?_, I.base.free, fun b o e g => ?_, I.base.tups, I.base.dR, I.base.eB⟩, ⟨_, R, fun j y T f t U => ?_⟩, fun y c e => ?_, I.free, I.gk, fun p W => ?_, tracked ⟨oL, S, I.free⟩ hs, by simpa using I.len⟩ ⟨_, hs, .inl rfl⟩
    · exact (hs.2 b (bz (bO (aP e) I.ok.above))).trans (I.base.keep b o e n C g)
    · obtain ⟨Y, f⟩ := I.base.slot b o e n C g
      exact ⟨Y, (hs.2 b (bz (bO (aP e) I.ok.above))).trans f⟩
    · obtain ⟨o', f⟩ := I.base.there b o e g
      exact ⟨o', (hs.2 b (bz (bO (aP e) I.ok.above))).trans f⟩
    · by_cases D : j = i
      · subst D
        rw [hi] at f; cases f
        rw [lN B] at t
        cases t
        exact ⟨u, r, .inl ⟨hk, by simp⟩⟩
      · rw [lM (Ne.symm D)] at t
        obtain ⟨Z, r', q⟩ := hl j y T f t U
        refine ⟨Z, r', ?_⟩
        rcases q with ⟨k, e⟩ | ⟨k, c, e, z⟩
        · refine .inl ⟨k, ?_⟩
          have : y ≠ x := fun e => D (u_ hN f (e ▸ hi))
          simp [this, e]
        · exact .inr ⟨k, c, e, z.sameBut hs (iF y c e)⟩
    · obtain ⟨P, z⟩ := I.cell y c e
      exact ⟨P, z.sameBut hs (iF y c e)⟩
    · obtain ⟨e, n, ne, nf, d⟩ := I.pin p W
      exact ⟨(hs.2 p.1 ne).trans e, n, ne, nf, d⟩
  · have F : X.fn x = true := by
      rcases hf with z | z
      · exact z
      · rw [z] at hk; cases hk
    obtain ⟨c, hc⟩ := I.ok.has x (.inl hk)
    obtain ⟨P, z⟩ := I.cell x c hc
    refine wpAny_storeName_cell I.ok.kind hk hc z (fun h' J hs => ?_)
    obtain ⟨oc, K, L⟩ := id z
    refine h { s with heap := h' } ⟨I.ok, I.os, I.bare, ⟨fun b o e n C g => ?_, fun b o e n C g => ?_, I.base.free, fun b o e g => ?_, I.base.tups, I.base.dR, I.base.eB⟩, ⟨m, hn.sameBut hs (Ne.symm (iF x c hc)), fun j y T f t U => ?_⟩, fun y c' e => ?_, I.free, I.gk, fun p W => ?_, tracked ⟨oc, K, I.gk x c hc⟩ hs, by simpa using I.len⟩ ⟨c, hs, .inr hc⟩
    · exact (hs.2 b (bz (bO (aP e) (I.ok.l8 x c F hc)))).trans (I.base.keep b o e n C g)
    · obtain ⟨Y, f⟩ := I.base.slot b o e n C g
      exact ⟨Y, (hs.2 b (bz (bO (aP e) (I.ok.l8 x c F hc)))).trans f⟩
    · obtain ⟨o', f⟩ := I.base.there b o e g
      exact ⟨o', (hs.2 b (bz (bO (aP e) (I.ok.l8 x c F hc)))).trans f⟩
    · by_cases D : j = i
      · subst D
        rw [hi] at f; cases f
        rw [lN B] at t
        cases t
        exact ⟨u, r, .inr ⟨.inl hk, c, hc, J⟩⟩
      · rw [lM (Ne.symm D)] at t
        obtain ⟨Z, r', q⟩ := hl j y T f t U
        refine ⟨Z, r', ?_⟩
        rcases q with q | ⟨k, c', e, z'⟩
        · exact .inl q
        · refine .inr ⟨k, c', e, z'.sameBut hs ?_⟩
          rintro rfl
          exact D (u_ hN f (I.ok.inj _ _ _ e hc ▸ hi))
    · by_cases O : c' = c
      · subst O; exact ⟨_, J⟩
      · obtain ⟨w2, z2⟩ := I.cell y c' e
        exact ⟨w2, z2.sameBut hs O⟩
    · obtain ⟨e, n, ne, nf, d⟩ := I.pin p W
      refine ⟨(hs.2 p.1 ?_).trans e, n, ne, nf, d⟩
      intro q
      rw [q, K] at e
      have q' : oc = p.2 := Option.some.inj e
      exact d P (by rw [← q']; exact L)
theorem nN{M:Model}{A:Around}{E:aA}{i:Nat}{x:Str}{v:V}{u:Value}{Q:Unit->Shared->Prop}(I:Inv X pins σ H s)(a:X.N.Nodup)(hi:X.N[i]?=some x)(b:Loc X.env.scope x)(r:RelV v u)
  (h:∀s',Inv X pins (σ.set i (some v)) H s'->Q () s')(c:X.fn x=true\/X.env.scope.names.lookup x=some .local:=by first|exact .inl rfl|exact .inr rfl|assumption):wpAny M A (storeName X.env x u) Q E s:=
 Fc I a hi b r (λs' d _=>h s' d) c
theorem Inv.yk{s':Shared}{ch:List Addr}(I:Inv X pins σ H s)(d:s'.os=s.os)(u:Un (frs X.stack) ch H H' s.heap s'.heap)(hok:bB X.prog X.w H' s'.heap)(f:AllBare s'.gens)
  (a:∀b∈ch,(b∈X.ex\/X.s₀.heap.objs.size<=b)/\b≠X.env.locals/\(∀x c,X.env.cells.lookup x=some c->c≠b)/\∀p∈X.pn++pins,p.1≠b):Inv X pins σ H' s':=by
 obtain⟨h',g',d',t',o'⟩:=s';have e:o'=s.os:=d;subst e;exact I.call (g':=g') (t':=t') (d':=d') u hok f a
end
abbrev XK:=Value->Option Addr->Hp->Prop
abbrev St:=List (Option V)
abbrev VK:=V->Hp->Prop
abbrev TE:=St->Hp->VK->Prop
abbrev TT:=St->Hp->(Bool->Hp->Prop)->Prop
abbrev TA:=St->Hp->(List V->Hp->Prop)->Prop
structure Ends where
 nx:St->Hp->Prop
 rt:VK
 bk:St->Hp->Prop:=λ_ _=>False
 ct:St->Hp->Prop:=λ_ _=>False
abbrev TS:=Ends->St->Hp->Prop
def EP(X:Cx)(pins:aF)(σ:St)(Q:VK)(u:Value)(s':Shared):Prop:=∃v H',Inv X pins σ H' s'/\RelV v u/\Q v H'
def TP(X:Cx)(pins:aF)(σ:St)(Q:Bool->Hp->Prop)(b:Bool)(s':Shared):Prop:=∃H',Inv X pins σ H' s'/\Q b H'
def AP(X:Cx)(pins:aF)(σ:St)(Q:List V->Hp->Prop)(us:List Value)(s':Shared):Prop:=∃vs H',Inv X pins σ H' s'/\Vals vs us/\Q vs H'
def SP(X:Cx)(pins:aF)(D:Ends)(f:Flow)(s':Shared):Prop:=
 match f with
 |.next=>∃σ' H',Inv X pins σ' H' s'/\D.nx σ' H'
 |.brk=>∃σ' H',Inv X pins σ' H' s'/\D.bk σ' H'
 |.cont=>∃σ' H',Inv X pins σ' H' s'/\D.ct σ' H'
 |.ret u=>∃v σ' H',Inv X pins σ' H' s'/\RelV v u/\D.rt v H'
def PE(X:Cx)(e:Expr)(t:TE):Prop:=
 ∀(pins:aF) (s:Shared) (σ:St) (H:Hp) (Q:VK),Inv X pins σ H s->t σ H Q->wpAny (model X.prog X.w) X.A (eval e X.env) (EP X pins σ Q) X.xe s
def PT(X:Cx)(e:Expr)(t:TT):Prop:=
 ∀(pins:aF) (s:Shared) (σ:St) (H:Hp) (Q:Bool->Hp->Prop),Inv X pins σ H s->t σ H Q->wpAny (model X.prog X.w) X.A (isTrue e X.env (eval e X.env)) (TP X pins σ Q) X.xe s
def PW(X:Cx)(e:Expr)(t:TT):Prop:=
 ∀(whole:Sem Value) (pins:aF) (s:Shared) (σ:St) (H:Hp) (Q:Bool->Hp->Prop),Inv X pins σ H s->t σ H Q->wpAny (model X.prog X.w) X.A (isTrue e X.env whole) (TP X pins σ Q) X.xe s
theorem PW.pt{X:Cx}{e:Expr}{t:TT}(h:PW X e t):PT X e t:=h _
def PA(X:Cx)(es:List Expr)(t:TA):Prop:=
 ∀(pos:Pos) (pins:aF) (s:Shared) (σ:St) (H:Hp) (Q:List V->Hp->Prop),Inv X pins σ H s->t σ H Q->wpAny (model X.prog X.w) X.A (spliced (backTo pos (starEach es X.env))) (AP X pins σ Q) X.xe s
def PS(X:Cx)(st:Stmt)(t:TS):Prop:=
 ∀(pins:aF) (s:Shared) (σ:St) (H:Hp) (D:Ends),Inv X pins σ H s->t D σ H->wpAny (model X.prog X.w) X.A (exec st X.env) (SP X pins D) X.xe s
def bY(X:Cx)(st:List Stmt)(t:TS):Prop:=
 ∀(pins:aF) (s:Shared) (σ:St) (H:Hp) (D:Ends),Inv X pins σ H s->t D σ H->wpAny (model X.prog X.w) X.A (execs st X.env) (SP X pins D) X.xe s
theorem aD{α:Type}{t:Sem α}{Q b:α->Shared->Prop}{M:Model}{A:Around}{E:aA}{s:Shared}(h:wpAny M A t Q E s)(c:∀a s,Q a s->b a s):wpAny M A t b E s:=jK h c λ_ _ x=>x
section
variable{X:Cx}
def FN(i:Nat):TE:=λσ H Q=>∃v,σ[i]?=some (some v)/\Q v H
def tC(v:V):TE:=λ_ H Q=>Q v H
theorem DF{i:Nat}{x:Str}{pos:Pos}(d:X.N[i]?=some x)(f:j4 X.env.scope x)(hd:(x==("__debug__":Str))=false:=by decide)(b:(x==("__classdict__":Str))=false:=by decide):PE X (.Name x pos) (FN i):=by
 intro pins s σ H Q I h;obtain⟨v,e,h⟩:=h;obtain⟨m,hn,g⟩:=I.loc;obtain⟨u,r,l⟩:=g i x v d e f;have fin:EP X pins σ Q u s:=⟨v,H,I,r,h⟩;rcases l with⟨hk,j⟩|⟨hk,c,hc,a⟩
 .exact wpAny_Name (wpAny_loadName_local I.ok.kind hk hn j fin) hd
 .rcases hk with hk|hk
  .exact wpAny_Name (wpAny_loadName_cell I.ok.kind hk hc a fin) hd
  .exact wpAny_Name (wpAny_loadName_free I.ok.kind hk hc a fin b) hd
theorem Du{i j pos}:PE X (.Constant (.int i) j pos) (tC (.int i)):=λ_ _ _ H _ I h=>wpAny_Constant_int ⟨.int i,H,I.tok _,⟨_,rfl⟩,h⟩
theorem Dh{b j pos}:PE X (.Constant (.bool b) j pos) (tC (.bl b)):=λ_ _ _ H _ I h=>Constant_bool ⟨.bl b,H,I,rfl,h⟩
theorem DC{x j pos}:PE X (.Constant (.str x) j pos) (tC (.str x)):=λ_ _ _ H _ I h=>Calls.Constant_str ⟨.str x,H,I.tok _,⟨_,rfl⟩,h⟩
def Gl(X:Cx)(x:Str):Prop:=X.env.kindOf x=some .globalImplicit
theorem p8{E:aA}{pins:aF}{s:Shared}{σ:St}{H:Hp}{x:Str}{u:Value}{pos:Pos}{Q:aA}(I:Inv X pins σ H s)(a:Gl X x)(b:X.mg x=some u)(h:Q u s)
  (hd:(x==("__debug__":Str))=false:=by decide):wpAny (model X.prog X.w) X.A (eval (.Name x pos) X.env) Q E s:=
 Calls.Name_function_global I.ok.kind a (Calls.loadGlobal_global (by rw[I.ok.glob];exact I.mod.glob.keeps I.bk) b h) hd
theorem mS{E:aA}{pins:aF}{s:Shared}{σ:St}{H:Hp}{x:Str}{u:Value}{pos:Pos}{Q:aA}(I:Inv X pins σ H s)(a:Gl X x)(b:X.mg x=none)(c:bootBuiltins x=some u)(h:Q u s)
  (hn:x≠"__name__":=by decide)(hd:(x==("__debug__":Str))=false:=by decide):wpAny (model X.prog X.w) X.A (eval (.Name x pos) X.env) Q E s:=by
 obtain⟨mb,h1,h2⟩:=I.mod.blt;exact Calls.Name_function_global I.ok.kind a (Calls.loadGlobal_builtin (by rw[I.ok.glob];exact I.mod.glob.keeps I.bk) b (by rw[I.ok.blt];exact h1.keeps I.bk) ((h2 x hn).trans c) h) hd
theorem Ds{x:Str}{v:V}{u:Value}{pos:Pos}(a:Gl X x)(b:X.mg x=some u)(r:RelV v u)(hd:(x==("__debug__":Str))=false:=by decide):PE X (.Name x pos) (tC v):=
 λ_ _ _ H _ I h=>p8 I a b ⟨v,H,I,r,h⟩ hd
theorem Di{x:Str}{v:V}{u:Value}{pos:Pos}(a:Gl X x)(b:X.mg x=none)(c:bootBuiltins x=some u)(r:RelV v u)(hn:x≠"__name__":=by decide)(hd:(x==("__debug__":Str))=false:=by decide):PE X (.Name x pos) (tC v):=
 λ_ _ _ H _ I h=>mS I a b c ⟨v,H,I,r,h⟩ hn hd
variable{a b:Expr}{ta tb:TE}{pos:Pos}
def tB(t:TE):TT:=λσ H Q=>t σ H λx H1=>∃c,x=.bl c/\Q c H1
theorem D_{e:Expr}{t:TE}(h:PE X e t)(a:∀whole,isTrue e X.env whole=(do let v <-whole;standAt e.pos;holding [v] (truthy v)):=by intro _;rfl):PT X e (tB t):=by
 intro pins s σ H Q I b;refine isTrue_plain (aD (h pins s σ H _ I b) λv i ⟨x,H1,c,f,g⟩=>?_) (a _);obtain⟨d,rfl,q⟩:=g;cases f;exact g_ ⟨H1,c,q⟩
variable{tA nO:TT}{rest:List Expr}
def Ff(t u:TT):TT:=λσ H Q=>t σ H λc H1=>if c=true then u σ H1 Q else Q false H1
def FA(t u:TT):TT:=λσ H Q=>t σ H λc H1=>if c=true then Q true H1 else u σ H1 Q
def Fz(t:TT):TT:=λσ H Q=>t σ H λc H1=>Q (!c) H1
theorem pw_and1(b:PT X a tA):PW X (.BoolOp .And [a] pos) tA:=by
 intro d pins s σ H Q I h;refine isTrue_and (aD (b pins s σ H Q I h) λc f e=>?_);cases c with
 |true=>exact isTrue_and_nil e
 |false=>exact e
theorem pw_or1(b:PT X a tA):PW X (.BoolOp .Or [a] pos) tA:=by
 intro d pins s σ H Q I h;refine isTrue_or (aD (b pins s σ H Q I h) λc f e=>?_);cases c with
 |false=>exact isTrue_or_nil e
 |true=>exact e
theorem pw_and(f:PT X a tA)(g:PW X (.BoolOp .And (b::rest) pos) nO):PW X (.BoolOp .And (a::b::rest) pos) (Ff tA nO):=by
 intro i pins s σ H Q I h;refine isTrue_and (aD (f pins s σ H _ I h) λc j ⟨H1,d,e⟩=>?_);cases c with
 |true=>exact g i pins j σ H1 Q d e
 |false=>exact⟨H1,d,e⟩
theorem pw_or(f:PT X a tA)(g:PW X (.BoolOp .Or (b::rest) pos) nO):PW X (.BoolOp .Or (a::b::rest) pos) (FA tA nO):=by
 intro i pins s σ H Q I h;refine isTrue_or (aD (f pins s σ H _ I h) λc j ⟨H1,d,e⟩=>?_);cases c with
 |true=>exact⟨H1,d,e⟩
 |false=>exact g i pins j σ H1 Q d e
theorem D9(b:PT X a tA):PT X (.UnaryOp .Not a pos) (Fz tA):=by
 intro pins s σ H Q I h;exact isTrue_not (b pins s σ H (λc H1=>Q (!c) H1) I h)
def Fg(ta tb:TE):TE:=λσ H Q=>ta σ H λx H1=>∃c,x=.bl c/\if c=true then tb σ H1 Q else Q (.bl false) H1
theorem Dy{op}{t:TE}(h:PE X a t):PE X (.BoolOp op [a] pos) t:=λpins s σ H Q I b=>BoolOp_one (h pins s σ H Q I b)
theorem Dg(f:PE X a ta)(g:PE X (.BoolOp .And (b::rest) pos) tb):PE X (.BoolOp .And (a::b::rest) pos) (Fg ta tb):=by
 intro pins s σ H Q I h;refine BoolOp_and (aD (f pins s σ H _ I h) λv i ⟨x,H1,e,j,d⟩=>?_);obtain⟨c,rfl,d⟩:=d;cases j;refine g_ ?_;cases c with
 |true=>exact g pins i σ H1 Q e d
 |false=>exact⟨.bl false,H1,e,rfl,d⟩
def Fq(t:TT)(ta tb:TE):TE:=λσ H Q=>t σ H λc H1=>if c=true then ta σ H1 Q else tb σ H1 Q
theorem Dt{c:Expr}(hc:PT X c tA)(i:PE X a ta)(j:PE X b tb):PE X (.IfExp c a b pos) (Fq tA ta tb):=by
 intro pins s σ H Q I h;refine wpAny_IfExp (aD (hc pins s σ H _ I h) λd e ⟨H1,f,g⟩=>?_);cases d with
 |true=>exact i pins e σ H1 Q f g
 |false=>exact j pins e σ H1 Q f g
end
def aX(K:Frag)(H:Hp)(a:Addr)(xs:List V):Prop:=
 Rd H a (.lst xs)\/
  ∃(o:Obj) (its:Array Value) (n:Nat),K.lookup a=some o/\o.cls=.type "list"/\o.dict=none/\o.data=.seq its n/\its.size<=sizeLine/\Vals xs its.toList
def bg(K:Frag)(H:Hp)(a:Addr)(xs:List V):Prop:=
 Rd H a (.tup xs)\/
  ∃(o:Obj) (its:Array Value) (n:Nat),K.lookup a=some o/\o.cls=.type "tuple"/\o.data=.seq its n/\its.size<=sizeLine/\Vals xs its.toList
def x6:Value->Option V
 |.none=>some .aJ
 |.bool b=>some (.bl b)
 |.int i _=>some (.int i)
 |.str x _=>some (.str x)
 |.bytes b _=>some (.fq b)
 |.float b _=>some (.jn b)
 |.ref a=>some (.ref a)
 |.type n=>some (.ty n)
 |_=>none
theorem RelV.abs{x:V}{u:Value}(r:RelV x u):x6 u=some x:=by
 cases x with
 |aJ=>cases r;rfl
 |bl _=>cases r;rfl
 |int _=>obtain⟨t,rfl⟩:=r;rfl
 |str _=>obtain⟨t,rfl⟩:=r;rfl
 |fq _=>obtain⟨t,rfl⟩:=r;rfl
 |jn _=>obtain⟨t,rfl⟩:=r;rfl
 |ref _=>cases r;rfl
 |ty _=>cases r;rfl
theorem RelV.inj{x y:V}{u:Value}(r:RelV x u)(q:RelV y u):x=y:=Option.some.inj (r.abs.symm.trans q.abs)
theorem Vals.inj:∀{xs ys:List V} {a:List Value},Vals xs a->Vals ys a->xs=ys
 |_,_,_,.nil,.nil=>rfl
 |_,_,_,.cons r t,.cons r' t'=>by rw[r.inj r',Vals.inj t t']
section
variable{X:Cx}{pins:aF}{σ:St}{H:Hp}{s:Shared}{a:Addr}{xs ys:List V}
theorem aX.of{K:Frag}(h:H a=some (.lst xs)):aX K H a xs:=.inl (.inl h)
theorem bg.of{K:Frag}(h:H a=some (.tup xs)):bg K H a xs:=.inl (.inl h)
theorem Inv.list(I:Inv X pins σ H s)(h:aX X.K H a xs):∃its:List Value,Vals xs its/\PlainL s.heap a its.toArray/\xs.length<=sizeLine:=by
 rcases h with h|⟨o,its,n,hk,hc,hd,hs,b,r⟩
 .obtain⟨z,its,n,r,e⟩:=h.ok I.hok
  exact⟨its,r,⟨_,n,e,rfl,rfl,rfl⟩,z⟩
 .refine⟨its.toList,r,⟨o,n,I.cH a o hk,hc,hd,by simpa using hs⟩,?_⟩
  have e:=r.length;simp only[bu] at e;omega
theorem Inv.tuple(I:Inv X pins σ H s)(h:bg X.K H a xs):∃its:List Value,Vals xs its/\IsTup s.heap a its.toArray/\xs.length<=sizeLine:=by
 rcases h with h|⟨o,its,n,hk,hc,hs,b,r⟩
 .obtain⟨z,its,r,p⟩:=h.ok I.hok
  exact⟨its,r,p.is,z⟩
 .refine⟨its.toList,r,⟨o,I.cH a o hk,hc,n,by simpa using hs⟩,?_⟩
  have e:=r.length;simp only[bu] at e;omega
theorem Inv.B0(I:Inv X pins σ H s)(h:aX X.K H a xs)(h':aX X.K H a ys):xs=ys:=by
 obtain⟨its,r,⟨o,n,e,_,_,d⟩,_⟩:=I.list h;obtain⟨its',r',⟨o',n',b,_,_,d'⟩,_⟩:=I.list h';rw[e] at b;cases b;rw[d] at d';injection d' with c _;have:its=its':=by simpa using cV toList c
 subst this;exact r.inj r'
theorem Inv.FW(I:Inv X pins σ H s)(h:bg X.K H a xs)(h':bg X.K H a ys):xs=ys:=by
 obtain⟨its,r,⟨o,e,_,n,d⟩,_⟩:=I.tuple h;obtain⟨its',r',⟨o',b,_,n',d'⟩,_⟩:=I.tuple h';rw[e] at b;cases b;rw[d] at d';injection d' with c _;have:its=its':=by simpa using cV toList c
 subst this;exact r.inj r'
end
section
variable{X:Cx}{st:Stmt}{rest:List Stmt}{t u:TS}{e:Expr}{te:TE}{pos:Pos}
def Fw:TS:=λD σ H=>D.nx σ H
def FH(t u:TS):TS:=λD σ H=>t {D with nx:=u D} σ H
theorem D5:bY X [] Fw:=λ_ _ σ H _ I h=>wpAny_execs_nil ⟨σ,H,I,h⟩
theorem D4(h1:PS X st t)(h2:bY X rest u):bY X (st::rest) (FH t u):=by
 intro pins s σ H D I h;refine wpAny_execs_cons (aD (h1 pins s σ H {D with nx:=u D} I h) λf a q=>?_);cases f with
 |next=>
  obtain⟨σ',H',b,q⟩:=q;exact h2 pins a σ' H' D b q
 |ret v=>exact q
 |brk=>exact q
 |cont=>exact q
theorem D6(h1:PS X st t):bY X [st] t:=by
 intro pins s σ H D I h;refine wpAny_execs_cons (aD (h1 pins s σ H D I h) λf a q=>?_);cases f with
 |next=>exact wpAny_execs_nil q
 |ret v=>exact q
 |brk=>exact q
 |cont=>exact q
theorem Inv.quiet{pins:aF}{σ:St}{H:Hp}{s:Shared}(I:Inv X pins σ H s):interactive X.env=false:=by simp[interactive,I.ok.kind]
def Fo(te:TE):TS:=λD σ H=>te σ H λ_ H1=>D.nx σ H1
theorem DU(a:PE X e te)(hs:swapsWith e none pos.line X.env=pure false:=by rfl):PS X (.Expr e pos) (Fo te):=by
 intro pins s σ H D I h;exact wpAny_Expr_any (aD (a pins s σ H _ I h) λv d ⟨x,H1,b,f,c⟩=>⟨σ,H1,b,c⟩) I.quiet hs
def FG(te:TE):TS:=λD σ H=>te σ H D.rt
theorem D0(a:PE X e te):PS X (.Return (some e) pos) (FG te):=by
 intro pins s σ H D I h;exact wpAny_Return_some (aD (a pins s σ H _ I h) λv f ⟨x,H1,b,c,d⟩=>⟨x,σ,H1,b,c,d⟩)
def Ft(c:TT)(t u:TS):TS:=λD σ H=>c σ H λb H1=>if b=true then t D σ H1 else u D σ H1
theorem DW{c:Expr}{a b:List Stmt}{tc:TT}(hc:PT X c tc)(i:bY X a t)(j:bY X b u):PS X (.If c a b pos) (Ft tc t u):=by
 intro pins s σ H D I h;refine wpAny_If (aD (hc pins s σ H _ I h) λd e ⟨H1,f,g⟩=>?_);cases d with
 |true=>exact i pins e σ H1 D f g
 |false=>exact j pins e σ H1 D f g
end
abbrev TG:=V->St->Hp->(St->Hp->Prop)->Prop
abbrev jZ:=List V->St->Hp->(St->Hp->Prop)->Prop
def PG(X:Cx)(target:Expr)(t:TG):Prop:=
 ∀(pins:aF) (s:Shared) (σ:St) (H:Hp) (v:V) (u:Value) (Q:St->Hp->Prop),Inv X pins σ H s->RelV v u->t v σ H Q->
  wpAny (model X.prog X.w) X.A (assign target X.env u) (λ_ s'=>∃σ' H',Inv X pins σ' H' s'/\Q σ' H') X.xe s
section
variable{X:Cx}{pos:Pos}
def kr(i:Nat):TG:=λv σ H Q=>Q (σ.set i (some v)) H
theorem vv{i:Nat}{x:Str}(a:X.N.Nodup)(hi:X.N[i]?=some x)(b:Loc X.env.scope x)(c:X.fn x=true\/X.env.scope.names.lookup x=some .local:=by first|exact .inl rfl|exact .inr rfl|assumption):PG X (.Name x pos) (kr i):=by
 intro pins s σ H v u Q I r h;exact wpAny_assign_Name (nN I a hi b r (λs' d=>⟨_,H,d,h⟩) c)
def AF:jZ:=λvs σ H Q=>vs=[]/\Q σ H
def AE(t:TG)(u:jZ):jZ:=λvs σ H Q=>∃v r,vs=v::r/\t v σ H λσ' H'=>u r σ' H' Q
def AG(K:Frag)(n:Nat)(t:jZ):TG:=λv σ H Q=>∃a xs,v=.ref a/\bg K H a xs/\xs.length=n/\t xs σ H Q
def Fi(te:TE)(g:TG):TS:=λD σ H=>te σ H λx H1=>g x σ H1 D.nx
theorem D3{i:Nat}{x:Str}{e:Expr}{te:TE}{pos':Pos}(a:X.N.Nodup)(hi:X.N[i]?=some x)(b:Loc X.env.scope x)(c:PE X e te)(hs:swapsWith e (some (.Name x pos')) pos.line X.env=pure false:=by rfl)(d:X.fn x=true\/X.env.scope.names.lookup x=some .local:=by first|exact .inl rfl|exact .inr rfl|assumption):
  PS X (.Assign [.Name x pos'] e pos) (Fi te (kr i)):=by
 intro pins s σ H D I h;refine wpAny_Assign_Name (aD (c pins s σ H _ I h) λv l ⟨y,H1,f,g,j⟩=>?_) hs;exact nN f a hi b g (λm k=>⟨_,H1,k,j⟩) d
def FD(i j:Nat)(ta:TA):TS:=λD σ H=>ta σ H λvs H1=>∃v w,vs=[v,w]/\D.nx ((σ.set i (some v)).set j (some w)) H1
theorem DY{i j:Nat}{x y:Str}{a b:Expr}{ta:TA}{px py pt:Pos}{kt k2 c}(hc:X.calm=true)(r:X.N.Nodup)(hi:X.N[i]? =some x)(B:X.N[j]? =some y)(k:i≠j)
  (t:X.env.scope.names.lookup x=some .local)(u:X.env.scope.names.lookup y=some .local)(C:PA X [a,b] ta)
  (E:swappedStores [.Tuple [.Name x px,.Name y py] kt pt] (.Tuple [a,b] k2 c) X.env=pure (some [x,y]))
  (hs:swapsWithSole [.Tuple [.Name x px,.Name y py] kt pt] (.Tuple [a,b] k2 c) pos.line X.env=pure false:=by rfl):
  PS X (.Assign [.Tuple [.Name x px,.Name y py] kt pt] (.Tuple [a,b] k2 c) pos) (FD i j ta):=by
 intro pins s σ H D I h
 rw[exec_Assign_arm]
 refine aa (wpAny_standAt ?_)
 rw[hs]
 refine aa (ao ?_)
 rw[aj (by decide)]
 refine aa (Tuple_ (aD (C _ pins s σ H _ I h) λF d ⟨vs,H1,G,J,l⟩=> ?_))
 obtain⟨v,w,K,l⟩:=l
 subst K
 obtain⟨f,g,rfl,L,m⟩:∃f g,F=[f,g]/\RelV v f/\RelV w g:=by
  cases J with
  |cons p q=>
   cases q with
   |cons M O=>
    cases O
    exact⟨_,_,rfl,p,M⟩
 refine dh ?_ (by show 2<=sizeLine;decide)
 have P:Inv X pins σ H1 {d with heap:=d.heap.push {cls:= .type "tuple",data:= .seq [f,g].toArray}}:=G.kept (t':=d.toks) λb o e=>a_ _ e
 rw[E]
 refine aa (ao ?_)
 show wpAny (model X.prog X.w) X.A (do rule "assign.swapped-stores";let items <-unpackItems (.ref d.heap.objs.size) 2 none;assignInOrder [λv=>bindName X.env y v,λv=>bindName X.env x v] items.reverse;pure Flow.next) _ _ _
 refine aa (wpAny_rule (aa (unpackItems_tuple (items:= #[f,g]) (I.ok.hd hc) (IsTup.new d.heap _) λh' n=> ?_)))
 have Q:=P.kept (h':=h') (t':=d.toks) λb o e=>n b o (bz (aP e)) e
 show wpAny _ _ (assignInOrder [λv=>bindName X.env y v,λv=>bindName X.env x v] [g,f]>>=λ_=>pure Flow.next) _ _ _
 refine aa (assignInOrder_cons (wpAny_bindName (nN Q r B (.inl u) m (λS R=> ?_) (.inr u))))
 refine assignInOrder_cons (wpAny_bindName (nN R r hi (.inl t) L (λT z=>assignInOrder_nil (ao ?_)) (.inr t)))
 rw[List.set_comm _ _ (Ne.symm k)] at z
 exact⟨_,H1,z,l⟩
end
structure It where
 go:Nat->Hp->Prop
 nY:Nat->Hp->V->Hp->Prop
 stop:Nat->Hp->Prop
def dz(X:Cx)(pins:aF)(H:Hp)(b:Addr):Prop:=
 H b=none/\b≠X.env.locals/\b∉X.fs/\(b∈X.ex\/X.s₀.heap.objs.size<=b)/\(∀x c,X.env.cells.lookup x=some c->c≠b)/\∀p∈X.pn++pins,p.1≠b
theorem Inv.pQ{X:Cx}{pins:aF}{σ:St}{H H':Hp}{s:Shared}{b:Addr}(I:Inv X pins σ H s)(a:s.heap.objs.size<=b)(hn:H' b=none):dz X pins H' b:=by
 refine⟨hn,iU (bO I.lt a),I.CJ a,.inr (cO I.sz a),λx c e z=>?_,λp d z=>?_⟩
 .obtain⟨v,q⟩:=I.cell x c e
  exact absurd (bO q.lt (by rw[z];exact a)) (dw _)
 .exact absurd (bO (aP (I.pin p d).1) (by rw[z];exact a)) (dw _)
structure Turn(P:Program)(w:World)(K:Frag)(tg:Expr)(J:It)(fp:List Addr)(it:Addr)(tn:Nat->Heap->Prop):Prop where
 mem:it∈fp
 obj:∀i h,tn i h->∀b∈fp,∃o,h.get? b=some o/\∀v,o.data≠ .cell v
 keep:∀i h h',tn i h->(∀b∈fp,∀o,h.get? b=some o->h'.get? b=some o)->tn i h'
 item:∀(X:Cx),X.prog=P->X.w=w->X.K=K->X.calm=true->∀(i:Nat) (pins:aF) (s:Shared) (σ:St) (H:Hp) (E:aA),Inv X pins σ H s->(∀b∈fp,dz X pins H b)->tn i s.heap->J.go i H->
  wpAny (model P w) X.A (pyNext (.ref it)) (λr s1=>∃u,r=some u/\
   wpAny (model P w) X.A (letOwnedTupleGo tg (.ref it) u) (λ_ s2=>∃x H',Inv X pins σ H' s2/\RelV x u/\J.nY i H x H'/\tn (i+1) s2.heap/\∀b∈fp,H' b=none) E s1) E s
 done:∀(X:Cx),X.prog=P->X.w=w->X.K=K->X.calm=true->∀(i:Nat) (pins:aF) (s:Shared) (σ:St) (H:Hp) (E:aA),Inv X pins σ H s->(∀b∈fp,dz X pins H b)->tn i s.heap->J.stop i H->
  wpAny (model P w) X.A (pyNext (.ref it)) (λr s1=>r=none/\Inv X pins σ H s1) E s
 self:∀(A:Around) (i:Nat) (s:Shared) (Q:aA) (E:aA),tn i s.heap->Q (.ref it) s->wpAny (model P w) A (pyIter (.ref it)) Q E s
abbrev TI:=St->Hp->(It->Hp->Prop)->Prop
def rD(X:Cx)(pins:aF)(σ:St)(tg:Expr)(R:It->Hp->Prop)(itv:Value)(s2:Shared):Prop:=
 ∃(it:Addr) (fp:List Addr) (tn:Nat->Heap->Prop) (J:It) (H':Hp),itv=.ref it/\Inv X pins σ H' s2/\Turn X.prog X.w X.K tg J fp it tn/\tn 0 s2.heap/\(∀b∈fp,dz X pins H' b)/\R J H'
def PI(X:Cx)(tg iter:Expr)(wi:TI):Prop:=
 ∀(pins:aF) (s:Shared) (σ:St) (H:Hp) (R:It->Hp->Prop),Inv X pins σ H s->wi σ H R->
  wpAny (model X.prog X.w) X.A (eval iter X.env) (λv s1=>wpAny (model X.prog X.w) X.A (pyIter v) (rD X pins σ tg R) X.xe s1) X.xe s
theorem tX{M:Model}{A:Around}{E:aA}{s:Shared}{tg:Expr}{it:Addr}{u:Value}{o:Obj}{n:String}{vs:Array Value}{Q:Unit->Shared->Prop}(b:s.heap.get? it=some o)(hc:o.cls=.type n)(hd:o.data=.fields vs)
  (hn:["enumerate","zip","dict_itemiterator","dict_reverseitemiterator","odict_iterator","itertools.zip_longest","itertools.pairwise"].contains n=false)(a:Q () s):wpAny M A (letOwnedTupleGo tg (.ref it) u) Q E s:=by
 unfold letOwnedTupleGo;cases tg<;>first
  |exact ao a
  |(cases u<;>first
    |exact ao a
    |(refine aa (wpAny_load b ?_)
      rw[hc,hd];show wpAny M A (if (["enumerate","zip","dict_itemiterator","dict_reverseitemiterator","odict_iterator","itertools.zip_longest","itertools.pairwise"].contains n&&vs[0]? ==some (rawInt _))=true then _ else _) Q E s;rw[aj (by intro h;rw[hn,Bool.false_and] at h;cases h)];exact ao a))
def lQ(K:Frag)(a:Addr):It:=
 ⟨λi H=>∃xs x,aX K H a xs/\xs[i]?=some x,λi H x H'=>H'=H/\∀xs,aX K H a xs->xs[i]?=some x,λi H=>∃xs,aX K H a xs/\xs.length<=i⟩
def oH(K:Frag)(a:Addr):It:=
 ⟨λi H=>∃xs x,bg K H a xs/\xs[i]?=some x,λi H x H'=>H'=H/\∀xs,bg K H a xs->xs[i]?=some x,λi H=>∃xs,bg K H a xs/\xs.length<=i⟩
theorem F0{P:Program}{w:World}{K:Frag}{tg:Expr}(a it:Addr):Turn P w K tg (lQ K a) [it] it (λi h=>h.IsListIter it a i) where
 mem:=by simp
 obj:=λi h st b f=>by
  have e:b=it:=by simpa using f
  subst e
  obtain⟨o,e,c,d⟩:=st
  exact⟨o,e,λv z=>by rw[d] at z;cases z⟩
 keep:=λi h h' st k=>st.at λo e=>k it (by simp) o e
 item:=by
  intro X l m n hc i pins s σ H E I j st q
  subst l m n
  obtain⟨xs,x,hq,r⟩:=q
  obtain⟨its,t,p,B⟩:=I.list hq
  obtain⟨u,C,ru⟩:=t.get r
  obtain⟨f0,f1,f2,y,f4,A⟩:=j it (by simp)
  refine wpAny_pyNext_list_item st p.isList (x:=u) (by simpa using C) λh' g sb=> ?_
  have D:Inv X pins σ H {s with heap:=h'}:=I.turned (t':=s.toks) (λb o f e=>(sb.2 b f).trans e) f0 f1 y f4 A
  obtain⟨o,e,c,d⟩:=id g
  exact⟨u,rfl,tX (s:={s with heap:=h'}) e c d (by decide) ⟨x,H,D,ru,⟨rfl,λys F=>by rw[I.B0 F hq];exact r⟩,g,λb f=>(j b f).1⟩⟩
 done:=by
  intro X l m n hc i pins s σ H E I j st q
  subst l m n
  obtain⟨xs,hq,r⟩:=q
  obtain⟨its,t,p,B⟩:=I.list hq
  obtain⟨f0,f1,f2,y,f4,A⟩:=j it (by simp)
  have J:=t.length
  exact wpAny_pyNext_list_end (I.ok.hd hc) st p.isList (by simp;omega) λh' G=>⟨rfl,I.turned (t':=s.toks) (λb o f e=>G b o f e) f0 f1 y f4 A⟩
 self:=λ_ _ _ _ _ st h=>wpAny_pyIter_listiter st h
theorem F3{P:Program}{w:World}{K:Frag}{tg:Expr}(a it:Addr):Turn P w K tg (oH K a) [it] it (λi h=>h.IsTupleIter it a i) where
 mem:=by simp
 obj:=λi h st b f=>by
  have e:b=it:=by simpa using f
  subst e
  obtain⟨o,e,c,d⟩:=st
  exact⟨o,e,λv z=>by rw[d] at z;cases z⟩
 keep:=λi h h' st k=>st.at λo e=>k it (by simp) o e
 item:=by
  intro X l m n hc i pins s σ H E I j st q
  subst l m n
  obtain⟨xs,x,hq,r⟩:=q
  obtain⟨its,t,p,B⟩:=I.tuple hq
  obtain⟨u,C,ru⟩:=t.get r
  obtain⟨f0,f1,f2,y,f4,A⟩:=j it (by simp)
  refine wpAny_pyNext_tuple_item st (show s.heap.IsTuple a its.toArray from p) (x:=u) (by simpa using C) λh' g sb=> ?_
  have D:Inv X pins σ H {s with heap:=h'}:=I.turned (t':=s.toks) (λb o f e=>(sb.2 b f).trans e) f0 f1 y f4 A
  obtain⟨o,e,c,d⟩:=id g
  exact⟨u,rfl,tX (s:={s with heap:=h'}) e c d (by decide) ⟨x,H,D,ru,⟨rfl,λys F=>by rw[I.FW F hq];exact r⟩,g,λb f=>(j b f).1⟩⟩
 done:=by
  intro X l m n hc i pins s σ H E I j st q
  subst l m n
  obtain⟨xs,hq,r⟩:=q
  obtain⟨its,t,p,B⟩:=I.tuple hq
  obtain⟨f0,f1,f2,y,f4,A⟩:=j it (by simp)
  have J:=t.length
  exact wpAny_pyNext_tuple_end (I.ok.hd hc) st (show s.heap.IsTuple a its.toArray from p) (by simp;omega) λh' G=>⟨rfl,I.turned (t':=s.toks) (λb o f e=>G b o f e) f0 f1 y f4 A⟩
 self:=λ_ _ _ _ _ st h=>wpAny_pyIter_tupleiter st h
section
variable{X:Cx}{tg:Expr}
def Fp(wi:TI)(g:TG)(tb:TS):TS:=λD σ H=>wi σ H λJ H1=>∃W:Nat->Nat->St->Hp->Prop,(∃m,W 0 m σ H1)/\∀i m σ H,W i m σ H->
 (J.stop i H/\D.nx σ H)\/(J.go i H/\∃N:St->Hp->Prop,(∀σ' H',N σ' H'->∃m',m'<m/\W (i+1) m' σ' H')/\∀x H',J.nY i H x H'->g x σ H' λσ2 H2=>tb {D with nx:=N,ct:=N,bk:=D.nx} σ2 H2)
def kY(fp:List Addr)(h:Heap):aF:=fp.filterMap λb=>(h.get? b).map λo=>(b,o)
theorem mZ{fp:List Addr}{h:Heap}{b:Addr}{o:Obj}(a:b∈fp)(e:h.get? b=some o):(b,o)∈kY fp h:=i7.mpr ⟨b,a,by rw[e];rfl⟩
theorem CU{fp:List Addr}{h:Heap}{p:Addr×Obj}(a:p∈kY fp h):p.1∈fp/\h.get? p.1=some p.2:=by
 obtain⟨b,c,e⟩:=i7.mp a;cases q:h.get? b with
 |none=>rw[q] at e;cases e
 |some o=>
  rw[q] at e;have d:(b,o)=p:=Option.some.inj e;subst d;exact⟨c,q⟩
theorem Inv.pinned{pins:aF}{σ:St}{H:Hp}{s:Shared}{fp:List Addr}(I:Inv X pins σ H s)(f:∀b∈fp,dz X pins H b)(g:∀b∈fp,∃o,s.heap.get? b=some o/\∀v,o.data≠ .cell v):Inv X (pins++kY fp s.heap) σ H s:=
 I.vC λp h=>(aT.mp h).elim (λz=>I.pin p (d8 _ z)) λz=>by
  obtain⟨a,e⟩:=CU z;obtain⟨f0,f1,f2,_⟩:=f p.1 a;obtain⟨o,c,d⟩:=g p.1 a;rw[e] at c;cases c;exact⟨e,f0,f1,f2,d⟩
theorem Inv.lu{pins pl:aF}{σ:St}{H:Hp}{s:Shared}(I:Inv X (pins++pl) σ H s):Inv X pins σ H s:=I.vC λp a=>I.pin p (d8 _ (i6 _ a))
theorem DV{iter:Expr}{body:List Stmt}{wi:TI}{g:TG}{tb:TS}{pos:Pos}(y:PassesOwn (model X.prog X.w) X.A X.env X.xe)(hc:X.calm=true)(hi:PI X tg iter wi)(U:PG X tg g)(c:bY X body tb)
  (hs:∀x,foldedSetIterable iter X.env x=pure x:=by intro _;rfl):PS X (.For tg iter body [] pos) (Fp wi g tb):=by
 intro pins s σ H D I h;refine wpAny_For (aD (hi pins s σ H _ I h) λv s1 h1=>aD h1 λV s2 h2=>?_) hs;obtain⟨it,fp,P,J,H2,e,Y,T,F,f2,W,⟨m0,Z⟩,turn⟩:=h2;subst e;have j:∀{H':Hp},(∀b∈fp,H' b=none)->∀b∈fp,dz X pins H' b:=λhn b c=>⟨hn b c,(f2 b c).2⟩;refine codeAny_forLoop_any (λn s'=>∃i σ' H',Inv X pins σ' H' s'/\P i s'.heap/\(∀b∈fp,H' b=none)/\W i n σ' H') ?_ m0 ⟨0,σ,H2,Y,F,λb c=>(f2 b c).1,Z⟩;rintro n Q ⟨i,k,E,R,z,B,w3⟩;rcases turn i n k E w3 with⟨stop,qn⟩|⟨go,N,hN,step⟩
 .refine lE y (aD (T.done X rfl rfl rfl hc i pins Q k E X.xe R (j B) z stop) λr s4 ⟨G,I4⟩=>?_)
  subst G;exact wpAny_execs_nil ⟨k,E,I4,qn⟩
 .refine lE y (aD (T.item X rfl rfl rfl hc i pins Q k E X.xe R (j B) z go) λr s4 ⟨u,G,h4⟩=>?_)
  subst G;refine lE y (aD h4 λ_ s5 ⟨x,S,I5,r5,y5,t,K⟩=>?_);have L:=I5.pinned (j K) (T.obj _ _ t);refine lE y (aD (U _ s5 k S x u _ L r5 (step x S y5)) λ_ s6 ⟨M,H6,I6,q6⟩=>?_);refine lE y (aD (c _ s6 M H6 _ I6 q6) λf O q=>?_);have again:∀{a:St} {l:Hp},Inv X (pins++kY fp s5.heap) a l O->N a l->∃m,m<n/\∃i σ' H',Inv X pins σ' H' O/\P i O.heap/\(∀b∈fp,H' b=none)/\W i m σ' H':=λ {a l} p C=>by
   obtain⟨m',hm,w7⟩:=hN a l C;refine⟨m',hm,i+1,a,l,p.lu,T.keep _ _ _ t λb c o e=>(p.pin (b,o) (d8 _ (d8 _ (mZ c e)))).1,λb c=>?_,w7⟩;obtain⟨o,e,d⟩:=T.obj _ _ t b c;exact(p.pin (b,o) (d8 _ (d8 _ (mZ c e)))).2.1
  cases f with
  |next=>obtain⟨a,l,p,C⟩:=q;exact again p C
  |cont=>obtain⟨a,l,p,C⟩:=q;exact again p C
  |brk=>obtain⟨a,l,p,q⟩:=q;exact⟨a,l,p.lu,q⟩
  |ret v=>obtain⟨x7,a,l,p,r7,q⟩:=q;exact⟨x7,a,l,p.lu,r7,q⟩
end
abbrev R2:=V->V->Hp->VK->Prop
def aO(X:Cx)(f:Value->Value->Sem Value)(r:R2):Prop:=
 ∀(pins:aF) (s:Shared) (σ:St) (H:Hp) (x y:V) (v u:Value) (Q:VK),Inv X pins σ H s->RelV x v->RelV y u->r x y H Q->
  wpAny (model X.prog X.w) X.A (f v u) (EP X pins σ Q) X.xe s
def d_(X:Cx)(f:Value)(r:List V->Hp->VK->Prop):Prop:=
 ∀(pins:aF) (s:Shared) (σ:St) (H:Hp) (xs:List V) (us:List Value) (Q:VK),Inv X pins σ H s->Vals xs us->r xs H Q->
  wpAny (model X.prog X.w) X.A (call f us) (EP X pins σ Q) X.xe s
def lg(r:R2)(ta tb:TE):TE:=λσ H Q=>ta σ H λx H1=>tb σ H1 λy H2=>r x y H2 Q
def rI(C:Int->Int->Prop)(g:Int->Int->V):R2:=λx y H Q=>∃i j,x=.int i/\y=.int j/\C i j/\Q (g i j) H
def fU(g:Int->Int->V):R2:=λx y H Q=>∃i j,x=.int i/\y=.int j/\Q (g i j) H
section
variable{X:Cx}{a b c:Expr}{ta tb tc:TE}{pos:Pos}
theorem oX(g:PE X a ta)(i:PE X b tb){pins:aF}{s:Shared}{σ:St}{H:Hp}{R:V->V->Hp->Prop}(I:Inv X pins σ H s)
  (h:ta σ H λx H1=>tb σ H1 λy H2=>R x y H2){Q:aA}{f:Value->Value->Sem Value}
  (j:∀v u e x y H2,Inv X pins σ H2 e->RelV x v->RelV y u->R x y H2->wpAny (model X.prog X.w) X.A (f v u) Q X.xe e):
  wpAny (model X.prog X.w) X.A (eval a X.env) (λv c=>wpAny (model X.prog X.w) X.A (eval b X.env) (λu d=>wpAny (model X.prog X.w) X.A (f v u) Q X.xe d) X.xe c) X.xe s:=by
 refine aD (g pins s σ H _ I h) λv k ⟨x,H1,l,m,n⟩=> ?_
 refine aD (i pins k σ H1 _ l n) λu e ⟨y,H2,o,p,q⟩=> ?_
 exact j v u e x y H2 o m p q
theorem Dz{op:Operator}{r:R2}(c:aO X (binaryOp op) r)(d:PE X a ta)(e:PE X b tb):PE X (.BinOp a op b pos) (lg r ta tb):=by
 intro pins s σ H Q I h;exact wpAny_BinOp (oX d e I h λv u f x y H2 g i j q=>c pins f σ H2 x y v u Q g i j q)
theorem qt{f:Value->Value->Sem Value}{C:Int->Int->Prop}{g:Int->Int->Int}
  (rule:∀(i j:Int) (t u:Tok) (s:Shared) (Q:aA) (E:aA),C i j->Q (.int (g i j) s.toks) {s with toks:=s.toks+1}->wpAny (model X.prog X.w) X.A (f (.int i t) (.int j u)) Q E s):
  aO X f (rI C λi j=>.int (g i j)):=by
 intro pins s σ H x y v u Q I a b h;obtain⟨i,j,rfl,rfl,hc,q⟩:=h;obtain⟨t,rfl⟩:=a;obtain⟨t',rfl⟩:=b;exact rule i j t t' s _ _ hc ⟨.int (g i j),H,I.tok _,⟨_,rfl⟩,q⟩
theorem vj{f:Value->Value->Sem Value}{g:Int->Int->Int}
  (rule:∀(i j:Int) (t u:Tok) (s:Shared) (Q:aA) (E:aA),Q (.int (g i j) s.toks) {s with toks:=s.toks+1}->wpAny (model X.prog X.w) X.A (f (.int i t) (.int j u)) Q E s):
  aO X f (fU λi j=>.int (g i j)):=by
 intro pins s σ H x y v u Q I a b h;obtain⟨i,j,rfl,rfl,q⟩:=h;obtain⟨t,rfl⟩:=a;obtain⟨t',rfl⟩:=b;exact rule i j t t' s _ _ ⟨.int (g i j),H,I.tok _,⟨_,rfl⟩,q⟩
theorem vh{f:Value->Value->Sem Value}{g:Int->Int->Bool}
  (rule:∀(i j:Int) (t u:Tok) (s:Shared) (Q:aA) (E:aA),Q (.bool (g i j)) s->wpAny (model X.prog X.w) X.A (f (.int i t) (.int j u)) Q E s):
  aO X f (fU λi j=>.bl (g i j)):=by
 intro pins s σ H x y v u Q I a b h;obtain⟨i,j,rfl,rfl,q⟩:=h;obtain⟨t,rfl⟩:=a;obtain⟨t',rfl⟩:=b;exact rule i j t t' s _ _ ⟨.bl (g i j),H,I,rfl,q⟩
def rj(i j:Int):Prop:=0<=j/\j<=1000000/\i.natAbs<2 ^ 64
def jR(i j:Int):Prop:=(-(2 ^ 64)<i/\i<2 ^ 64)\/(-(2 ^ 64)<j/\j<2 ^ 64)
theorem jR.ok{i j:Int}(h:jR i j):IntMulOk i j:=by
 rcases h with⟨h1,h2⟩|⟨h1,h2⟩
 .exact .of_left (intBits_le_64 h1 h2)
 .exact .of_right (intBits_le_64 h1 h2)
theorem CW:aO X (binaryOp .Add) (fU λi j=>.int (i+j)):=vj λ_ _ _ _ _ _ _ q=>add_int q
theorem Df:aO X (binaryOp .Sub) (fU λi j=>.int (i - j)):=vj λ_ _ _ _ _ _ _ q=>sub_int q
theorem C_:aO X (binaryOp .Mult) (rI jR λi j=>.int (i*j)):=qt λ_ _ _ _ _ _ _ hc q=>mul_int q hc.ok
theorem C9:aO X (binaryOp .Mod) (rI (λ_ j=>0<j) λi j=>.int (i%j)):=qt λi j _ _ _ _ _ hc q=>by
 have h1:(0:Int)<j:=hc;exact mod_int' (by omega) (by rw[Int.fmod_eq_emod_of_nonneg i (by omega)];exact q)
theorem De:aO X (binaryOp .Pow) (rI rj λi j=>.int (i ^ j.toNat)):=qt λ_ _ _ _ _ _ _ hc q=>pow_int_small hc.1 hc.2.1 hc.2.2 q
end
def wR:V->V->Bool
 |.aJ,.aJ=>true|.aJ,.int _=>true|.int _,.aJ=>true|.aJ,.bl _=>true|.bl _,.aJ=>true|.aJ,.str _=>true|.str _,.aJ=>true
 |.int _,.int _=>true|.bl _,.bl _=>true|.str _,.str _=>true|.fq _,.fq _=>true
 |.int _,.str _=>true|.str _,.int _=>true|.bl _,.str _=>true|.str _,.bl _=>true
 |_,_=>false
def qA:R2:=λx y H Q=>wR x y=true/\Q (.bl (decide (x=y))) H
def qC:R2:=λx y H Q=>wR x y=true/\Q (.bl (!decide (x=y))) H
theorem sQ{i j:Int}:decide (V.int i=V.int j)=(i==j):=by
 rw[iV];simp
theorem sO{i j:Bool}:decide (V.bl i=V.bl j)=(i==j):=by
 rw[iV];simp
theorem sR{i j:Str}:decide (V.str i=V.str j)=(i==j):=by
 rw[iV];simp
theorem sP{i j:Array UInt8}:decide (V.fq i=V.fq j)=(i.toList==j.toList):=by
 rw[iV];cases i;cases j;simp
section
variable{X:Cx}{a b c:Expr}{ta tb tc:TE}{pos:Pos}
theorem br{pins:aF}{σ:St}{H:Hp}{s:Shared}{Q:VK}{k k':Bool}(I:Inv X pins σ H s)(q:Q (.bl k) H)(e:k=k'):EP X pins σ Q (.bool k') s:=by
 subst e;exact⟨.bl k,H,I,rfl,q⟩
theorem C3:aO X (compareOp .Eq) qA:=by
 intro pins s σ H x y v u Q I b a h;obtain⟨hs,q⟩:=h;cases x with
 |aJ=>
  cases b;cases y with
  |aJ=>cases a;exact PySem.EqNone.eq_none_none (br I q (by simp))
  |bl j=>cases a;exact PySem.EqNone.eq_none_bool (br I q (by simp))
  |int j=>obtain⟨t',rfl⟩:=a;exact PySem.EqNone.eq_none_int (br I q (by simp))
  |str j=>obtain⟨t',rfl⟩:=a;exact PySem.EqNone.eq_none_str (br I q (by simp))
  |_=>exact absurd (show false=true from hs) b7
 |bl i=>
  cases b;cases y with
  |aJ=>cases a;exact PySem.EqNone.eq_bool_none (br I q (by simp))
  |bl j=>cases a;exact eq_bool (br I q sO)
  |str j=>obtain⟨t',rfl⟩:=a;exact PySem.EqMixed.eq_bool_str (br I q (by simp))
  |_=>exact absurd (show false=true from hs) b7
 |int i=>
  obtain⟨t,rfl⟩:=b;cases y with
  |aJ=>cases a;exact PySem.EqNone.eq_int_none (br I q (by simp))
  |int j=>obtain⟨t',rfl⟩:=a;exact eq_int (br I q sQ)
  |str j=>obtain⟨t',rfl⟩:=a;exact PySem.EqMixed.eq_int_str (br I q (by simp))
  |_=>exact absurd (show false=true from hs) b7
 |str i=>
  obtain⟨t,rfl⟩:=b;cases y with
  |aJ=>cases a;exact PySem.EqNone.eq_str_none (br I q (by simp))
  |bl j=>cases a;exact PySem.EqMixed.eq_str_bool (br I q (by simp))
  |int j=>obtain⟨t',rfl⟩:=a;exact PySem.EqMixed.eq_str_int (br I q (by simp))
  |str j=>obtain⟨t',rfl⟩:=a;exact eq_str (br I q sR)
  |_=>exact absurd (show false=true from hs) b7
 |fq i=>
  obtain⟨t,rfl⟩:=b;cases y with
  |fq j=>obtain⟨t',rfl⟩:=a;exact PySem.W.eq_bytes (br I q sP)
  |_=>exact absurd (show false=true from hs) b7
 |_=>cases y<;>exact absurd (show false=true from hs) b7
theorem Dc:aO X (compareOp .NotEq) qC:=by
 intro pins s σ H x y v u Q I b a h;obtain⟨hs,q⟩:=h;cases x with
 |aJ=>
  cases b;cases y with
  |aJ=>cases a;exact PySem.EqNone.ne_none_none (br I q (by simp))
  |bl j=>cases a;exact PySem.EqNone.ne_none_bool (br I q (by simp))
  |int j=>obtain⟨t',rfl⟩:=a;exact PySem.EqNone.ne_none_int (br I q (by simp))
  |str j=>obtain⟨t',rfl⟩:=a;exact PySem.EqNone.ne_none_str (br I q (by simp))
  |_=>exact absurd (show false=true from hs) b7
 |bl i=>
  cases b;cases y with
  |aJ=>cases a;exact PySem.EqNone.ne_bool_none (br I q (by simp))
  |bl j=>cases a;exact ne_bool (br I q (cV not sO))
  |str j=>obtain⟨t',rfl⟩:=a;exact PySem.EqMixed.ne_bool_str (br I q (by simp))
  |_=>exact absurd (show false=true from hs) b7
 |int i=>
  obtain⟨t,rfl⟩:=b;cases y with
  |aJ=>cases a;exact PySem.EqNone.ne_int_none (br I q (by simp))
  |int j=>obtain⟨t',rfl⟩:=a;exact ne_int (br I q (cV not sQ))
  |str j=>obtain⟨t',rfl⟩:=a;exact PySem.EqMixed.ne_int_str (br I q (by simp))
  |_=>exact absurd (show false=true from hs) b7
 |str i=>
  obtain⟨t,rfl⟩:=b;cases y with
  |aJ=>cases a;exact PySem.EqNone.ne_str_none (br I q (by simp))
  |bl j=>cases a;exact PySem.EqMixed.ne_str_bool (br I q (by simp))
  |int j=>obtain⟨t',rfl⟩:=a;exact PySem.EqMixed.ne_str_int (br I q (by simp))
  |str j=>obtain⟨t',rfl⟩:=a;exact ne_str (br I q (cV not sR))
  |_=>exact absurd (show false=true from hs) b7
 |fq i=>
  obtain⟨t,rfl⟩:=b;cases y with
  |fq j=>obtain⟨t',rfl⟩:=a;exact PySem.W.ne_bytes (br I q (cV not sP))
  |_=>exact absurd (show false=true from hs) b7
 |_=>cases y<;>exact absurd (show false=true from hs) b7
theorem C7:aO X (compareOp .Lt) (fU λi j=>.bl (decide (i<j))):=vh λ_ _ _ _ _ _ _ q=>lt_int q
theorem C5:aO X (compareOp .LtE) (fU λi j=>.bl (decide (i<=j))):=vh λ_ _ _ _ _ _ _ q=>le_int q
theorem C8:aO X (compareOp .Lt) (λx y H Q=>∃i j,x=.str i/\y=.str j/\Q (.bl (decide (i.cps.toList<j.cps.toList))) H):=by
 intro pins s σ H x y v u Q I a b h;obtain⟨i,j,rfl,rfl,q⟩:=h;obtain⟨t,rfl⟩:=a;obtain⟨t',rfl⟩:=b;exact lt_str (br I q rfl)
theorem aO.or{f:Value->Value->Sem Value}{r r':R2}(h:aO X f r)(h':aO X f r'):aO X f (λx y H Q=>r x y H Q\/r' x y H Q):=by
 intro pins s σ H x y v u Q I a b q;rcases q with q|q
 .exact h pins s σ H x y v u Q I a b q
 .exact h' pins s σ H x y v u Q I a b q
theorem ng(b:Expr){op:CmpOp}(h:op≠ .In:=by decide)(h2:op≠ .NotIn:=by decide):behindInMarks op b=false:=by
 have a:(op==CmpOp.In)=false:=by cases op<;>first|rfl|exact absurd rfl h
 have c:(op==CmpOp.NotIn)=false:=by cases op<;>first|rfl|exact absurd rfl h2
 cases b<;>simp[behindInMarks,a,c]
theorem Dn{op:CmpOp}{r:R2}(c:aO X (compareOp op) r)(d:PE X a ta)(e:PE X b tb)(f:behindInMarks op b=false):PE X (.Compare a [op] [b] pos) (lg r ta tb):=by
 intro pins s σ H Q I h;exact wpAny_Compare1 (oX d e I h λv u g x y H2 i j k q=>c pins g σ H2 x y v u Q i j k q) f
def qL(t:TE):TT:=λσ H Q=>t σ H λx H'=>∃k,x=.bl k/\Q k H'
theorem D8{op:CmpOp}{r:R2}(d:aO X (compareOp op) r)(f:PE X a ta)(g:PE X b tb)(i:behindInMarks op b=false):PT X (.Compare a [op] [b] pos) (qL (lg r ta tb)):=by
 intro pins s σ H Q I h;refine wpAny_isTrue_Compare1 (aD (f pins s σ H _ I h) λv j ⟨x,H1,l,m,n⟩=>aD (g pins j σ H1 _ l n) λu o ⟨y,H2,p,q,t⟩=>
  aD (d pins o σ H2 x y v u _ p m q t) λc D ⟨z,w,A,B,k,e,C⟩=>?_) i
 subst e;cases B;exact g_ ⟨w,A,C⟩
def qK(r r':R2)(ta tb tc:TE):TE:=λσ H Q=>ta σ H λx H1=>tb σ H1 λy H2=>r x y H2 λz H3=>∃k,z=.bl k/\
 (if k=true then tc σ H3 λw' H4=>r' y w' H4 Q else Q (.bl false) H3)
theorem Dm{op f:CmpOp}{r r':R2}(n:aO X (compareOp op) r)(g:aO X (compareOp f) r')(o:PE X a ta)(p:PE X b tb)(hc:PE X c tc)
  (q:lastMarks [op,f] [b,c]=false:=by with_unfolding_all rfl):PE X (.Compare a [op,f] [b,c] pos) (qK r r' ta tb tc):=by
 intro pins s σ H Q I h;refine Compare_chain (aD (o pins s σ H _ I h) λv t ⟨x,H1,w,A,B⟩=>chain_link (aD (p pins t σ H1 _ w B) λu C ⟨y,H2,D,i,E⟩=>
  aD (n pins C σ H2 x y v u _ D A i E) λd F ⟨z,j,l,G,k,e,m⟩=>?_)) q
 subst e;cases G;refine g_ ?_;cases k with
 |false=>exact ite_ff ⟨.bl false,j,l,rfl,m⟩
 |true=>exact ite_tt (chain_last (aD (hc pins F σ j _ l m) λJ s4 ⟨K,L,M,N,O⟩=>g pins s4 σ L y K u J Q M i N O))
theorem D7{op f:CmpOp}{r r':R2}(n:aO X (compareOp op) r)(g:aO X (compareOp f) r')(o:PE X a ta)(p:PE X b tb)(hc:PE X c tc)
  (q:lastMarks [op,f] [b,c]=false:=by with_unfolding_all rfl):PT X (.Compare a [op,f] [b,c] pos) (qL (qK r r' ta tb tc)):=by
 intro pins s σ H Q I h;refine isTrue_chain (aD (o pins s σ H _ I h) λv t ⟨x,H1,w,A,B⟩=>test_link (aD (p pins t σ H1 _ w B) λu C ⟨y,H2,D,i,E⟩=>
  aD (n pins C σ H2 x y v u _ D A i E) λd F ⟨z,j,l,G,k,e,m⟩=>?_)) q
 subst e;cases G;refine g_ ?_;cases k with
 |false=>
  obtain⟨k',J,K⟩:=m;cases J;exact ite_ff ⟨j,l,K⟩
 |true=>
  refine ite_tt (test_last (aD (hc pins F σ j _ l m) λL s4 ⟨M,N,O,P,R⟩=>aD (g pins s4 σ N y M u L _ O i P R) λd' s5 ⟨Y,S,T,U,k2,V,W⟩=>?_));subst V;cases U;exact g_ ⟨S,T,W⟩
theorem Gy{κ:Type}{kvs:List (κ×V)}{vs:List (κ×Value)}(r:KV kvs vs):(!vs.isEmpty)= !kvs.isEmpty:=by
 cases r<;>rfl
theorem Gz{xs:List V}{its:List Value}(r:Vals xs its):(!its.toArray.isEmpty)= !xs.isEmpty:=by
 cases r<;>simp
theorem kG:(sizeLine:Nat)<2 ^ 63:=by rw[lz];decide
theorem CY:aO X (binaryOp .Add) (λx y H Q=>∃i j,x=.str i/\y=.str j/\i.length+j.length<=sizeLine/\Q (.str (i++j)) H):=by
 intro pins s σ H x y v u Q I a b h;obtain⟨i,j,rfl,rfl,c,q⟩:=h;obtain⟨t,rfl⟩:=a;obtain⟨t',rfl⟩:=b;exact add_str (λt' tk=>⟨.str (i++j),H,I.tok _,⟨_,rfl⟩,q⟩) c
theorem vals1{x:V}{a:List Value}(r:Vals [x] a):∃u,a=[u]/\RelV x u:=by
 cases r with
 |cons b c=>cases c;exact⟨_,rfl,b⟩
theorem vals2{x y:V}{a:List Value}(r:Vals [x,y] a):∃u b,a=[u,b]/\RelV x u/\RelV y b:=by
 cases r with
 |cons c d=>
  cases d with
  |cons e f=>cases f;exact⟨_,_,rfl,c,e⟩
end
structure oK(h:Heap)(x dx C:Addr)(mA:aq):Prop where
 obj:h.get? x=some (instObj C dx)
 ns:h.Ns1 dx mA
 ne:dx≠x
theorem B6{h:Heap}{dx:Addr}{c:aq}(n:h.Ns1 dx c):∃d,h.get? dx=some d/\∀name,lookIn name d=some (c name):=by
 obtain⟨o,es,ep,f,hd,hk,_,g⟩:=n;refine⟨o,f,λname=>?_⟩;have e:=g name;unfold nsFind findBy at e;rw[<-Array.find?_toList] at e;unfold lookIn;rw[hd];dsimp only;split
 .rename_i y q
  rw[q] at e;exact cV some e
 .rename_i q
  rw[q] at e;have a:es.toList.any (·.refKey)=false:=by
   rw[List.any_eq_false];intro y i;obtain⟨z,t,b⟩:=hk y (Array.mem_toList_iff.mp i);simp[DictEntry.refKey,b]
  have j:¬es.toList.any (·.refKey)=true:=by rw[a];exact b7
  rw[aj j];exact cV some e
theorem oK.look{h:Heap}{x dx C:Addr}{b:aq}(I:oK h x dx C b):∃a,PySem.W.InstAt h x (instObj C dx) C (some a)/\∀name,lookIn name a=some (b name):=
 let ⟨a,c,d⟩:=B6 I.ns
 ⟨a,⟨I.obj,rfl,rfl,c⟩,d⟩
theorem gf.some_of{v:V}{o:Option Value}(r:gf (some v) o):∃u,o=some u/\RelV v u:=by
 cases o with
 |none=>exact(show False from r).elim
 |some u=>exact⟨u,rfl,r⟩
section
variable{P:Program}{w:World}{H H':Hp}{h h':Heap}{a C dx:Addr}{fs fs':List (Str×V)}
theorem Bk(hok:bB P w H h)(e:H a=some (.ins C dx fs)):∃b,oK h a dx C b/\(∀f,gf (fs.lookup f) (b f))/\PySem.Within b (fs.map (·.1))/\fs.length<=1000/\H dx=some (.own a):=by
 obtain⟨d,z,ne,c,b,n,r,q⟩:=(show b9 P w H h a (.ins C dx fs) from hok a _ e);exact⟨b,⟨c,n,ne⟩,r,q,z,d⟩
end
structure oE(K:Frag)(C:Addr):Prop where
 pg:plainGet K C Str.empty=true
 hd:PySem.W.hasDictIn K C=true
 po:PySem.W.plainOver K C=true
 sa:findIn K (.ref C) "__setattr__"=some (some (.builtin "object.__setattr__"))
theorem oE.get{K:Frag}{C:Addr}(c:oE K C)(f:Str):plainGet K C f=true:=c.pg
section
variable{X:Cx}{pins:aF}{σ:St}{H:Hp}{s:Shared}{A:Around}{E:aA}{Q:aA}{c:Value}{b:Bool}
inductive ee(K:Frag)(H:Hp):V->Value->Prop where
 |aJ:ee K H .aJ (.type "NoneType")
 |bl (x:Bool):ee K H (.bl x) (.type "bool")
 |int (i:Int):ee K H (.int i) (.type "int")
 |str (x:Str):ee K H (.str x) (.type "str")
 |jn (x:UInt64):ee K H (.jn x) (.type "float")
 |lst {a:Addr} {xs:List V} (e:H a=some (.lst xs)):ee K H (.ref a) (.type "list")
 |bR {a:Addr} {o:Obj} {xs:List V} (e:H a=some (.bR o (.lst xs))):ee K H (.ref a) (.type "list")
 |tup {a:Addr} {xs:List V} (e:H a=some (.tup xs)):ee K H (.ref a) (.type "tuple")
 |dK {a:Addr} {kvs:List (Key×V)} (e:H a=some (.dK kvs)):ee K H (.ref a) (.type "dict")
 |dT {a:Addr} {kvs:List (List Key×V)} (e:H a=some (.dT kvs)):ee K H (.ref a) (.type "dict")
 |ins {a C dx:Addr} {fs:List (Str×V)} (e:H a=some (.ins C dx fs)) (cl:oE K C) (ha:findIn K (.ref C) "__class__"=some (some (.builtin "object.__class__")))
  (hn:PySem.W.specialIn K (.builtin "object.__class__") "__get__"=some (some (.builtin "getset_descriptor.__get__"))) (htk:PySem.W.takesIn K (.builtin "object.__class__")=some true)
  (hm:PySem.W.mroIn K C (.type "object")=some true):ee K H (.ref a) (.ref C)
theorem Bp{x:V}{u t:Value}(I:Inv X pins σ H s)(d:RelV x u)(ty:ee X.K H x t)(e:kitOne X.K t c=some b)(h:∀tk,Q (.bool b) {s with toks:=tk}):
  wpAny (model X.prog X.w) A (call (.builtin "isinstance") [u,c]) Q E s:=by
 cases ty with
 |aJ=>cases (show u=Value.none from d);exact eK PySem.W.kitx_none I.cH True.intro e (λz=>nomatch z) h
 |bl y=>cases (show u=Value.bool y from d);exact eK PySem.W.kitx_bool I.cH True.intro e (λz=>nomatch z) h
 |int i=>obtain⟨t,q⟩:=(show ∃t,u=Value.int i t from d);cases q;exact eK PySem.W.kitx_int I.cH True.intro e (λz=>nomatch z) h
 |str y=>obtain⟨t,q⟩:=(show ∃t,u=Value.str y t from d);cases q;exact eK PySem.W.kitx_str I.cH True.intro e (λz=>nomatch z) h
 |jn y=>obtain⟨t,q⟩:=(show ∃t,u=Value.float y t from d);cases q;exact eK PySem.W.kitx_float I.cH True.intro e (λz=>nomatch z) h
 | @lst a xs f=>
  cases (show u=Value.ref a from d);obtain⟨_,_,n,_,h1⟩:=(show b9 X.prog X.w H s.heap a (.lst xs) from I.hok a _ f);exact eK kitx_list I.cH ⟨_,h1,rfl⟩ e (λz=>nomatch z) h
 | @bR a j xs f=>
  cases (show u=Value.ref a from d);obtain⟨_,_,_,n,_,h1⟩:=(show b9 X.prog X.w H s.heap a (.bR j (.lst xs)) from I.hok a _ f);exact eK kitx_list I.cH ⟨_,h1,rfl⟩ e (λz=>nomatch z) h
 | @tup a xs f=>
  cases (show u=Value.ref a from d);obtain⟨_,_,_,p⟩:=(show b9 X.prog X.w H s.heap a (.tup xs) from I.hok a _ f);obtain⟨o,h1,h2,_⟩:=p.is;exact eK kitx_tuple I.cH ⟨o,h1,h2⟩ e (λz=>nomatch z) h
 | @dK a kvs f=>
  cases (show u=Value.ref a from d);obtain⟨_,_,vs,_,p⟩:=(show b9 X.prog X.w H s.heap a (.dK kvs) from I.hok a _ f);obtain⟨o,es,ep,h1,h2,_⟩:=p;exact eK kitx_dict I.cH ⟨o,h1,h2.1⟩ e (λz=>nomatch z) h
 | @dT a kvs f=>
  cases (show u=Value.ref a from d);obtain⟨_,_,xs,_,o,es,ep,h1,h2,_⟩:=(show b9 X.prog X.w H s.heap a (.dT kvs) from I.hok a _ f);exact eK kitx_dict I.cH ⟨o,h1,h2.1⟩ e (λz=>nomatch z) h
 | @ins a C dx fs f cl k hn g l=>
  cases (show u=Value.ref a from d);obtain⟨m,O,_⟩:=Bk I.hok f;obtain⟨r,J,_⟩:=O.look;exact eK (PySem.W.kitx_own (cl.get _) cl.hd k hn g l) I.cH J e (λz=>nomatch z) h
end
structure bQ(k:Nat)(A:Around):Prop where
 hd:A.handled=none
 dp:A.depth+3*k+5<recursionLimit
 un:A.units+16*k+200<cLine
theorem bQ.mono{j k:Nat}{A:Around}(r:bQ k A)(h:j<=k):bQ j A:=⟨r.hd,by have:=r.dp;omega,by have:=r.un;omega⟩
theorem bQ.deeper{k:Nat}{A:Around}(r:bQ (k+1) A)(env:Env):bQ k (A.deeper env):=
 ⟨r.hd,by have:=r.dp;show A.depth+1+3*k+5<_;omega,by have:=r.un;show A.units+3+16*k+200<_;omega⟩
theorem bQ.depth{k:Nat}{A:Around}(r:bQ k A):A.depth<recursionLimit:=by have:=r.dp;omega
theorem bQ.units{k:Nat}{A:Around}(r:bQ k A):A.units+64<cLine:=by have:=r.un;omega
def Fx:TA:=λ_ H Q=>Q [] H
def Fl(ta:TE)(tr:TA):TA:=λσ H Q=>ta σ H λx H1=>tr σ H1 λxs H2=>Q (x::xs) H2
section
variable{X:Cx}{e:Expr}{es:List Expr}{te:TE}{t:TA}{pos:Pos}
theorem vo:PA X [] Fx:=λ_ _ _ _ H Q I h=>Calls.spliced_nil ⟨[],H,I,.nil,h⟩
theorem qw(a:PE X e te)(b:PA X es t)(hs:starEach (e::es) X.env=(false,eval e X.env)::starEach es X.env:=by rfl):PA X (e::es) (Fl te t):=by
 intro pos pins s σ H Q I h;rw[hs];show wpAny _ _ (spliced ((false,eval e X.env)::backTo pos (starEach es X.env))) _ _ s;refine Calls.spliced_cons (aD (a pins s σ H _ I h) λu c ⟨x,H1,d,f,g⟩=>?_);exact aD (b pos pins c σ H1 _ d g) λl m ⟨xs,H2,i,j,k⟩=>⟨x::xs,H2,i,.cons f j,k⟩
def FL(t:TA):TE:=λσ H Q=>t σ H λxs H1=>xs.length<=sizeLine/\∀p,H1 p=none->Q (.ref p) (upd H1 p (.tup xs))
def Fv(t:TA):TE:=λσ H Q=>t σ H λxs H1=>xs.length<=sizeLine/\∀p,H1 p=none->Q (.ref p) (upd H1 p (.lst xs))
theorem DE{d}(h:PA X es t):PE X (.Tuple es d pos) (FL t):=by
 intro pins s σ H Q I hq;refine wpAny_Tuple_spliced (aD (h pos pins s σ H _ I hq) λf a ⟨xs,H1,c,r,z,q⟩=>⟨by rw[<-r.length];exact z,?_⟩);have g:H1 a.heap.objs.size=none:=c.hok.fresh (aC _);refine⟨.ref a.heap.objs.size,upd H1 a.heap.objs.size (.tup xs),c.laid (t':=a.toks) (λb u e=>a_ _ e) (aC _) ?_,rfl,q _ g⟩;exact⟨z,f,r,⟨_,bL _ rfl⟩⟩
theorem Dw(h:PA X es t):PE X (.List es pos) (Fv t):=by
 intro pins s σ H Q I hq;refine wpAny_List_spliced (aD (h pos pins s σ H _ I hq) λd a ⟨xs,H1,c,r,z,q⟩=>⟨by rw[<-r.length];exact z,?_⟩);have f:H1 a.heap.objs.size=none:=c.hok.fresh (aC _);refine⟨.ref a.heap.objs.size,upd H1 a.heap.objs.size (.lst xs),c.laid (t':=a.toks) (λb u e=>a_ _ e) (aC _) ?_,rfl,q _ f⟩;exact⟨z,d,0,r,bL _ rfl⟩
end
abbrev Sp:=List V->Hp->VK->XK->Prop
abbrev eL:=List Env->Hp->Shared->XK->aA
structure lO(P:Program)(w:World)(K:Frag)(mg:aq)(base:Heap)(A:Around)(outer:List Env)(s:Shared)(H:Hp):Prop where
 frames:A.frames=some outer
 mod:Mod K mg base
 bs:∀b o,base.get? b=some o->s.heap.get? b=some o/\H b=none
 iE:base.objs.size<=s.heap.objs.size
 fQ:s.heap.FunFrames base outer
 jo:∀b∈frs outer,H b=none
 hok:bB P w H s.heap
 bare:AllBare s.gens
def CE(outer:List Env)(P:Program)(w:World)(H:Hp)(s:Shared)(Q:VK)(u:Value)(s':Shared):Prop:=
 ∃v H',s'.os=s.os/\AllBare s'.gens/\Un (frs outer) [] H H' s.heap s'.heap/\bB P w H' s'.heap/\RelV v u/\Q v H'
def CR(CX:eL)(outer:List Env)(P:Program)(w:World)(H:Hp)(s:Shared)(Q:VK)(E:XK)(r:Result)(s':Shared):Prop:=
 match r with
 |.ok (.ret u)=>CE outer P w H s Q u s'
 |.ok _=>False
 |.error e=>CX outer H s E e s'
structure cQ(P:Program)(w:World)(K:Frag)(mg:aq)(base:Heap)(CX:eL)(k:Nat)(f:Addr)(fd:FuncData)(ps:List Str)(sp:Sp):Prop where
 len:∀vs H Q E,sp vs H Q E->vs.length=ps.length
 run:∀(A:Around) (outer:List Env) (s:Shared) (H:Hp) (args:Args) (us:List Value) (vs:List V) (Q:VK) (E:XK),bQ k A->lO P w K mg base A outer s H->BindsTo s fd args (ps.zip us)->Vals vs us->sp vs H Q E->
  codeAny (model P w) A (.call (.ref f) args) (CR CX outer P w H s Q E) s
theorem cQ.mono{P:Program}{w:World}{K:Frag}{mg:aq}{base:Heap}{CX:eL}{j k:Nat}{f:Addr}{fd:FuncData}{ps:List Str}{sp:Sp}(F:cQ P w K mg base CX j f fd ps sp)(h:j<=k):
 cQ P w K mg base CX k f fd ps sp:=⟨F.len,λA outer s H args a vs Q E b=>F.run A outer s H args a vs Q E (b.mono h)⟩
theorem cQ.imp{P:Program}{w:World}{K:Frag}{mg:aq}{base:Heap}{CX:eL}{k:Nat}{f:Addr}{fd:FuncData}{ps:List Str}{sp a:Sp}(F:cQ P w K mg base CX k f fd ps sp)
  (h:∀vs H Q E,a vs H Q E->sp vs H Q E):cQ P w K mg base CX k f fd ps a:=
 ⟨λvs H Q E q=>F.len vs H Q E (h _ _ _ _ q),λA outer s H args b vs Q E c d e g hs=>F.run A outer s H args b vs Q E c d e g (h _ _ _ _ hs)⟩
section
variable{X:Cx}{pins:aF}{σ:St}{H:Hp}{s s':Shared}
theorem Inv.z4(I:Inv X pins σ H s):lO X.prog X.w X.K X.mg X.base X.A X.stack s H:=
 ⟨I.ok.frames,I.ok.mod,I.bs,cO I.ok.iE I.sz,I.stack,I.qJ,I.hok,I.bare⟩
theorem Inv.after{Q:VK}{u:Value}(I:Inv X pins σ H s)(h:CE X.stack X.prog X.w H s Q u s'):EP X pins σ Q u s':=by
 obtain⟨v,H',os,bare,un,hok,r,q⟩:=h;obtain⟨c,g,d,t,a⟩:=s';obtain rfl:a=s.os:=os;exact⟨v,H',I.call (h':=c) (g':=g) (d':=d) (t':=t) (ch:=[]) un hok bare (λb z=>absurd z (by simp)),r,q⟩
end
def w9(sp:Sp)(gT:List V)(E:XK)(t:TA):TE:=λσ H Q=>t σ H λvs H1=>sp (vs++gT) H1 Q E
def Binds(K:Frag)(fd:FuncData)(ps:List Str)(ds:List Value):Prop:=
 ∀(s:Shared) (us:List Value),K.In s.heap->(us++ds).length=ps.length->BindsTo s fd ⟨us,[]⟩ (ps.zip (us++ds))
theorem Binds.all{K:Frag}{fd:FuncData}{ps:List Str}(h:∀a:List Value,a.length=ps.length->bindArgs fd ⟨a,[]⟩=pure (ps.zip a)):Binds K fd ps []:=λs a _ b=>by
 rw[e8] at b ⊢;exact .of_eq (h a b)
def Passes(CX:eL)(X:Cx)(E:XK):Prop:=∀(pins:aF) (σ:St) (H:Hp) (s:Shared) (e:Value) (s':Shared),Inv X pins σ H s->CX X.stack H s E e s'->X.xe e s'
section
variable{X:Cx}{CX:eL}{k:Nat}{f C:Addr}{fd:FuncData}{ps:List Str}{sp:Sp}{gT:List V}{ds:List Value}{E:XK}{x m:Str}{p pos apos:Pos}{e o:Expr}{es:List Expr}{ta:TE}{t:TA}
theorem Ej{pins:aF}{σ:St}{H:Hp}{s:Shared}{Q:VK}{a:List Value}{vs:List V}(F:cQ X.prog X.w X.K X.mg X.base CX k f fd ps sp)(c:bQ k X.A)(d:Binds X.K fd ps ds)(hd:Vals gT ds)(g:Passes CX X E)
  (I:Inv X pins σ H s)(r:Vals vs a)(h:sp (vs++gT) H Q E):wpAny (model X.prog X.w) X.A (call (.ref f) a) (EP X pins σ Q) X.xe s:=by
 have b:Vals (vs++gT) (a++ds):=r.append hd;have i:(a++ds).length=ps.length:=by rw[<-b.length];exact F.len _ _ _ _ h
 refine wpAny_call (lI (F.run X.A X.stack s H ⟨a,[]⟩ (a++ds) (vs++gT) Q E c I.z4 (d s a I.cH i) b h) λr s' hq=>?_);cases r with
 |error e=>exact g pins σ H s e s' I hq
 |ok fl=>
  cases fl with
  |ret u=>exact I.after hq
  |next=>exact False.elim hq
  |brk=>exact False.elim hq
  |cont=>exact False.elim hq
theorem Dk(F:cQ X.prog X.w X.K X.mg X.base CX k f fd ps sp)(d:bQ k X.A)(g:Gl X x)(i:X.mg x=some (.ref f))(hk:keepIn X.K (.ref f)=true)(j:Binds X.K fd ps ds)(hd:Vals gT ds)(l:Passes CX X E)
  (m:PA X (e::es) t)(a:(x==("__debug__":Str))=false:=by decide)(n:starEach (e::es) X.env=(false,eval e X.env)::starEach es X.env:=by rfl)(b:(backTo pos (starEach es X.env)).any (·.1)=false:=by rfl):
  PE X (.Call (.Name x p) (e::es) [] pos) (w9 sp gT E t):=by
 intro pins s σ H Q I h;refine n8 (p8 I g i ?_ a);refine PySem.W.callWith_K (h₀:=X.base) I.ok.mod.mP hk (aD (m pos pins s σ H _ I h) λo u ⟨vs,H1,c,r,q⟩=>⟨c.cH,?_⟩) n b;exact Ej F d j hd l c r q
end
structure bE(N P:List Str)(sc:Scope):Prop where
 kind:sc.kind= .function
 co:sc.isCoroutine=false
 gen:sc.isGenerator=false
 nd:N.Nodup
 pre:N.take P.length=P
 par:∀x∈P,sc.names.lookup x=some .local\/sc.names.lookup x=some .cell
 qp:∀y∈sc.names,y.2≠ .free
theorem sj{kindOf:Str->Option NameKind}{x:Str}:∀{binds:List (Str×Value)} {m:aq},(∀v,(x,v)∉binds)->bindL kindOf binds m x=m x
 |[],_,_=>rfl
 |(n,v)::r,m,h=>by
  unfold bindL;rw[sj λw a=>h w (cz _ a)];split
  .have:x≠n:=by rintro rfl;exact h v cP
   simp[this]
  .rfl
theorem se{kindOf:Str->Option NameKind}{x:Str}:∀{binds:List (Str×Value)} {m:aq},(∀v,(x,v)∉binds)->bindC kindOf binds m x=m x
 |[],_,_=>rfl
 |(n,v)::r,m,h=>by
  unfold bindC;rw[se λw a=>h w (cz _ a)];split
  .rfl
  .have:x≠n:=by rintro rfl;exact h v cP
   simp[this]
theorem sf{kindOf:Str->Option NameKind}{x:Str}{v:Value}:∀{P:List Str} {vs:List Value} {i:Nat} {m:aq},P.Nodup->P[i]?=some x->vs[i]?=some v->kindOf x=some .local->
  bindL kindOf (P.zip vs) m x=some v
 |[],_,_,_,_,h,_,_=>by simp at h
 |_::_,[],_,_,_,_,h,_=>by simp at h
 |p::P,w::vs,0,m,nd,h1,h2,hk=>by
  simp at h1 h2;subst h1;subst h2;show bindL kindOf ((p,w)::P.zip vs) m p=_;unfold bindL;rw[sj λv a=>(nodup_cons.mp nd).1 (of_mem_zip a).1,ai hk];simp
 |p::P,w::vs,i+1,m,nd,h1,h2,hk=>by
  show bindL kindOf ((p,w)::P.zip vs) m x=_;unfold bindL;exact sf (i:=i) (nodup_cons.mp nd).2 (by simpa using h1) (by simpa using h2) hk
theorem sd{kindOf:Str->Option NameKind}{x:Str}{v:Value}:∀{P:List Str} {vs:List Value} {i:Nat} {m:aq},P.Nodup->P[i]?=some x->vs[i]?=some v->kindOf x≠some .local->
  bindC kindOf (P.zip vs) m x=some v
 |[],_,_,_,_,h,_,_=>by simp at h
 |_::_,[],_,_,_,_,h,_=>by simp at h
 |p::P,w::vs,0,m,nd,h1,h2,hk=>by
  simp at h1 h2;subst h1;subst h2;show bindC kindOf ((p,w)::P.zip vs) m p=_;unfold bindC;rw[se λv a=>(nodup_cons.mp nd).1 (of_mem_zip a).1,aj hk];simp
 |p::P,w::vs,i+1,m,nd,h1,h2,hk=>by
  show bindC kindOf ((p,w)::P.zip vs) m x=_;unfold bindC;exact sd (i:=i) (nodup_cons.mp nd).2 (by simpa using h1) (by simpa using h2) hk
def start(N:List Str)(vs:List V):St:=vs.map some++replicate (N.length - vs.length) none
def bx(CX:eL)(P:Program)(w:World)(K:Frag)(mg:aq)(base:Heap)(N:List Str)(qual:Str)(scope:Scope)(f:Addr)(cd:Value)(A:Around)(outer:List Env)(s:Shared)(H:Hp)(E:XK):Cx where
 prog:=P
 w:=w
 K:=K
 mg:=mg
 base:=base
 A:=A.deeper (envOfC qual scope s.heap.objs.size f cd)
 N:=N
 s₀:=s
 H₀:=H
 env:=envOfC qual scope s.heap.objs.size f cd
 outer:=outer
 stack:=envOfC qual scope s.heap.objs.size f cd::outer
 ex:=[]
 calm:=true
 fn:=λ_=>true
 pn:=[]
 xe:=λe s'=>wpAny (model P w) (A.deeper (envOfC qual scope s.heap.objs.size f cd)) (leaving (envOfC qual scope s.heap.objs.size f cd) e) (λ_ s''=>CX outer H s E e s'') (λe' s''=>CX outer H s E e' s'') s'
theorem sC{sc:Scope}{n:Nat}{x:Str}(h:sc.names.lookup x=some .cell):∃c,(cellsFrom n sc.names []).lookup x=some c:=by
 have q:=PySem.W.cellsFrom_some sc.names n [] (.inl h);exact Option.isSome_iff_exists.mp q
theorem Bo{CX:eL}{P:Program}{w:World}{K:Frag}{mg:aq}{base:Heap}{N ps:List Str}{qual:Str}{scope:Scope}{f:Addr}{cd:Value}{A:Around}{outer:List Env}{s o:Shared}{H:Hp}{E:XK}{m:List Value}{vs:List V}
  (S:bE N ps scope)(hd:A.handled=none)(d:lO P w K mg base A outer s H)(F:vs.length=ps.length)(r:Vals vs m)
  (x:InCallC s s.heap.objs.size (bindL (envOfC qual scope s.heap.objs.size f cd).kindOf (ps.zip m) λ_=>none) (cellsFrom (s.heap.objs.size+1) scope.names []) (bindC (envOfC qual scope s.heap.objs.size f cd).kindOf (ps.zip m) λ_=>none) o):
  Inv (bx CX P w K mg base N qual scope f cd A outer s H E) [] (start N vs) H o:=by
 have B:ps.length<=N.length:=by have:=cV List.length S.pre;rw[dZ] at this;omega
 obtain⟨h1,tk,rfl,hk⟩:=x.done
 have g:∀b:Addr,b∉(bx CX P w K mg base N qual scope f cd A outer s H E).ex:=λb z=>absurd (show b∈([]:List Addr) from z) (by simp)
 refine⟨⟨d.mod,S.kind,rfl,rfl,aC _,λy z c h1 h2=> ?_,λy hy=> ?_,λy c _ h=> ?_,λ_=>hd,Around.frames_deeper d.frames,.inr ⟨rfl,rfl⟩,λb z=>absurd z (g b),d.bs,d.iE,λb _ _=>g b,λb z=>absurd z (g b),d.fQ,d.jo⟩,
  rfl,d.bare,Un.kept hk,⟨_,x.toInCall.ns,λi y v h1 h2 h3=> ?_⟩,λy c h=>⟨_,x.cell y c h⟩,d.hok.fresh (aC _),λy c h=> ?_,λp j=>absurd (show p∈([]:aF) from j) (by simp),d.hok.kept hk,?_⟩
 .exact name_of_addr x.apart (h_ h1) (h_ h2)
 .have hy:scope.names.lookup y=some .cell\/scope.names.lookup y=some .free:=hy
  rcases hy with hy|hy
  .exact sC hy
  .exact absurd rfl (S.qp _ (h_ hy))
 .exact iu (x.above y c (h_ h))
 .have hi:i<vs.length:=by
   unfold start at h2
   by_cases hi:i<vs.length
   .exact hi
   .rw[ir (by simpa using hi)] at h2
    rw[List.getElem?_replicate] at h2
    split at h2<;>cases h2
  have C:vs[i]? =some v:=by
   unfold start at h2
   rw[e9 (by simpa using hi),bD] at h2
   cases e:vs[i]? with
   |none=>rw[e] at h2;cases h2
   |some a=>rw[e] at h2;cases h2;rfl
  obtain⟨u,t,D⟩:=r.get C
  have j:ps[i]? =some y:=by
   rw[<-S.pre,List.getElem?_take_of_lt (by omega)];exact h1
  have l:ps.Nodup:=by rw[<-S.pre];exact S.nd.sublist (eZ _ _)
  refine⟨u,D,?_⟩
  rcases S.par y (gJ j) with k|k
  .exact .inl ⟨k,sf l j t k⟩
  .obtain⟨c,e⟩:=sC (n:=s.heap.objs.size+1) k
   refine .inr ⟨.inl k,c,e,?_⟩
   have q:=x.cell y c e
   rw[sd l j t (by show scope.names.lookup y≠_;rw[k];decide)] at q
   exact q
 .exact d.hok.fresh (iu (x.above y c (h_ h)))
 .unfold start
  show _=N.length
  rw[bV,bA,List.length_replicate]
  omega
theorem tP{CX:eL}{P:Program}{w:World}{K:Frag}{mg:aq}{base:Heap}{k:Nat}{f:Addr}{name qual:Str}{params:Arguments}{body:List Stmt}{scope:Scope}{p kV doc pm a ct C:Value}{an D:Option Addr}
  {i:Array (Option Value)}{N ps:List Str}{sp:Sp}(lk:K.lookup f=some ⟨C,D,.func (fnOf name qual params body scope p kV doc pm an a ct),i⟩)(j:codeIn K a qual=true)(S:bE N ps scope)
  (len:∀vs H Q E,sp vs H Q E->vs.length=ps.length)
  (c:∀(A:Around) (outer:List Env) (s:Shared) (H:Hp) (vs:List V) (Q:VK) (E:XK),bQ k (A.deeper (envOfC qual scope s.heap.objs.size f a))->sp vs H Q E->
   ∃t,bY (bx CX P w K mg base N qual scope f a A outer s H E) body t/\t {nx:=λ_ H'=>Q .aJ H',rt:=Q} (start N vs) H):
  cQ P w K mg base CX (k+1) f (fnOf name qual params body scope p kV doc pm an a ct) ps sp:=by
 refine⟨len,λA outer s H args F vs Q E l g G r h=> ?_⟩
 have L:=len _ _ _ _ h
 have z:K.In s.heap:=g.mod.mP.keeps λb o e=>(g.bs b o e).1
 have lim:s.heap.NoLimit:=g.mod.nolimit.keeps λb o e=>(g.bs b o e).1
 have d:∀y∈ps.zip F,scope.names.lookup y.1=some .local\/(scope.names.lookup y.1=some .cell/\((cellsFrom (s.heap.objs.size+1) scope.names []).lookup y.1).isSome=true):=λ⟨n,v⟩ M=>by
  rcases S.par n (of_mem_zip M).1 with q|q
  .exact .inl q
  .exact .inr ⟨q,PySem.W.cellsFrom_some _ _ _ (.inl q)⟩
 refine codeAny_call_function l.depth (z _ _ lk) rfl S.co S.gen rfl (PySem.W.codeRec_of z j) (G _ _ _ _ ?_)
 refine wpAny_newFunctionEnv_cells S.kind d λenv O B x=> ?_
 subst O
 refine⟨lim.keeps x.toInCall.keep,codeAny_func ?_⟩
 obtain⟨t,R,hq⟩:=c A outer s H vs Q E (l.deeper _) h
 have I:Inv (bx CX P w K mg base N qual scope f a A outer s H E) [] (start N vs) H B:=Bo S l.hd g L r x
 refine jK (R [] B (start N vs) H _ I hq) (λfl s' hs=> ?_) λe s' hs=>hs
 have fin:∀{σ':St} {H':Hp} {v:V} {u:Value},Inv (bx CX P w K mg base N qual scope f a A outer s H E) [] σ' H' s'->RelV v u->Q v H'->CE outer P w H s Q u s':=
  λ {σ' H' v u} J m q=>⟨v,H',J.os,J.bare,J.base,J.hok,m,q⟩
 cases fl with
 |ret u=>
  obtain⟨v,σ',H',J,m,q⟩:=hs
  exact fin J m q
 |next=>
  obtain⟨σ',H',J,q⟩:=hs
  exact fin (v:=V.aJ) (u:=Value.none) J rfl q
 |brk=>
  obtain⟨_,_,_,q⟩:=hs
  exact False.elim q
 |cont=>
  obtain⟨_,_,_,q⟩:=hs
  exact False.elim q
section
variable{X:Cx}{x:Str}{p pos:Pos}{e:Expr}{es:List Expr}{t:TA}{id T:String}{r:List V->Hp->VK->Prop}
def w4(r:List V->Hp->VK->Prop)(t:TA):TE:=λσ H Q=>t σ H λvs H1=>r vs H1 Q
theorem vt(hc:d_ X (.builtin id) r)(c:Gl X x)(d:X.mg x=none)(f:bootBuiltins x=some (.builtin id))(g:PA X (e::es) t)(hn:x≠"__name__":=by decide)(a:(x==("__debug__":Str))=false:=by decide)
  (i:starEach (e::es) X.env=(false,eval e X.env)::starEach es X.env:=by rfl)(b:(backTo pos (starEach es X.env)).any (·.1)=false:=by rfl):PE X (.Call (.Name x p) (e::es) [] pos) (w4 r t):=by
 intro pins s σ H Q I h;refine n8 (mS I c d f ?_ hn a);exact PyProof.Rows.callWith_builtin1 (aD (g pos pins s σ H _ I h) λj k ⟨vs,H1,l,m,n⟩=>hc pins k σ H1 vs j Q l m n) i b
end
end L2
end
namespace HT
open PySem PyProof.Rows
section
variable{prog:Program}{w:World}{A:Around}{E:aA}{s:Shared}
theorem yz{t b:Addr}{vs ws:List Value}{Q:aA}(o:IsTup s.heap t vs.toArray)(p:IsTup s.heap b ws.toArray)(j:vs≠[])
  (h1:ws=[]->Q (.ref t) s)(h2:ws≠[]->Q (.ref s.heap.objs.size) {s with heap:=s.heap.push {cls:= .type "tuple",data:= .seq (vs++ws).toArray}})
  (i:vs.length+ws.length<=sizeLine):wpAny (model prog w) A (binaryOp .Add (.ref t) (.ref b)) Q E s:=by
 obtain⟨⟨cls,dd,data,k⟩,g,hc,n,hd⟩:=id o
 obtain⟨⟨l,c,data2,d⟩,a,f,m,hd2⟩:=id p
 simp only at hc hd f hd2
 subst hc hd f hd2
 have e:vs.toArray++ws.toArray=(vs++ws).toArray:=by simp
 by_cases h:ws=[]
 .exact concat_meets ⟨_,g,rfl⟩ ⟨_,a,rfl⟩ noFill_tuple_add seq_tuple_add slot_tuple_add entry_tuple_add (args_tuple_add_2 _ _)
   (tuple_addW1 t b vs.toArray ws.toArray n m dd c k d (by simpa using j) (by simp[h])) ⟨g,a,h1 h⟩
 .refine concat_meets ⟨_,g,rfl⟩ ⟨_,a,rfl⟩ noFill_tuple_add seq_tuple_add slot_tuple_add entry_tuple_add (args_tuple_add_2 _ _)
   (tuple_addW2 t b vs.toArray ws.toArray n m dd c k d (by simpa using j) (by simpa using h) (by rw[bT,bT];exact i)) ⟨g,a,?_⟩
  rw[e]
  exact h2 h
def aE(n d:Nat):Option Int->Nat
 |none=>d
 |some v=>if v<0 then (v+(n:Int)).toNat else min v.toNat n
theorem Ep(n d:Nat)(hd:d<=n)(o:Option Int):aE n d o<=n:=by
 cases o with
 |none=>exact hd
 |some v=>
  show(if v<0 then (v+(n:Int)).toNat else min v.toNat n)<=n;by_cases a:v<0
  .rw[ai a];omega
  .rw[aj a];exact Nat.min_le_right _ _
theorem sD(v:Int)(n d:Nat):(if v<0 then max (v+(n:Int)) 0 else min v (n:Int))=((aE n d (some v):Nat):Int):=by
 show(if v<0 then max (v+(n:Int)) 0 else min v (n:Int))=(((if v<0 then (v+(n:Int)).toNat else min v.toNat n):Nat):Int);by_cases a:v<0
 .simp only[ai a];omega
 .simp only[aj a];omega
theorem x8(lo hi:Option Int)(n:Nat):Builtin.Slice.sliceAdjust lo hi 1 (n:Int)=(((aE n 0 lo:Nat):Int),((aE n n hi:Nat):Int)):=by
 have h1:¬((1:Int)<0):=by omega
 unfold Builtin.Slice.sliceAdjust;simp only[h1,bH];refine Prod.ext ?_ ?_
 .cases lo with
  |none=>rfl
  |some v=>exact sD v n 0
 .cases hi with
  |none=>rfl
  |some v=>exact sD v n n
theorem DO(i j:Nat):Builtin.Slice.slicePlaces (i:Int) (j:Int) 1=j - i:=by
 unfold Builtin.Slice.slicePlaces;have h1:(1:Int)>0:=by omega
 simp only[h1,eH,Int.ediv_one];split<;>omega
theorem wV{v:Value}{o:Option Int}{Q:Option Int->Shared->Prop}(p:IsPart v o)(h:Q o s):wpAny (model prog w) A (Builtin.Slice.slicePartIndex v) Q E s:=by
 cases p with
 |none=>exact slicePart_none h
 |int i t=>exact slicePart_int h
theorem EW{e:Addr}{c d:Value}{lo hi:Option Int}{n:Nat}{Q:Int×Int×Nat->Shared->Prop}(hs:s.heap.IsSliceOf e c d .none)(pl:IsPart c lo)(pu:IsPart d hi)
  (h:Q (((aE n 0 lo:Nat):Int),1,aE n n hi - aE n 0 lo) s):wpAny (model prog w) A (Builtin.Slice.sliceApplied (.ref e) (pure (n:Int))) Q E s:=by
 obtain⟨os,a,f,b⟩:=id hs;unfold Builtin.Slice.sliceApplied Builtin.Slice.sliceFields;refine aa (aa (wpAny_field a b (x:=c) rfl (aa (wpAny_field a b (x:=d) rfl (aa (wpAny_field a b (x:=.none) rfl (ao ?_)))))));refine aa (slicePart_none ?_);show wpAny _ _ (if ((1:Int)==0)=true then _ else _) _ _ s;rw[aj (by decide)];refine aa (wV pl (aa (wV pu (aa (ao ?_)))));show wpAny _ _ (match Builtin.Slice.sliceAdjust lo hi 1 (n:Int) with|(lo,hi)=>pure (lo,(1:Int),Builtin.Slice.slicePlaces lo hi 1)) _ _ s;rw[x8 lo hi n];show wpAny _ _ (pure (((aE n 0 lo:Nat):Int),(1:Int),Builtin.Slice.slicePlaces ((aE n 0 lo:Nat):Int) ((aE n n hi:Nat):Int) 1)) _ _ s;rw[DO];exact ao h
theorem DN(xs:Array Value)(i k:Nat):((range k).filterMap λ(m:Nat)=>xs[((i:Int)+(m:Int)*1).toNat]?).toArray=((xs.toList.drop i).take k).toArray:=by
 have e:(λ(m:Nat)=>xs[((i:Int)+(m:Int)*1).toNat]?)=λm=>xs[i+m]? :=by
  funext m;have:((i:Int)+(m:Int)*1).toNat=i+m:=by omega
  rw[this]
 rw[e];have:=pick_run xs i k;rw[List.filterMap_map] at this;have a:((λx=>xs[x]?)∘λx=>i+x)=λm=>xs[i+m]? :=rfl;rw[a] at this;rw[this]
theorem AK{t c:Addr}{items:Array Value}{i j:Value}{lo hi:Option Int}{Q:aA}(b:IsTup s.heap t items)(hs:s.heap.IsSliceOf c i j .none)(pl:IsPart i lo)(pu:IsPart j hi)
  (k:¬(aE items.size 0 lo=0/\aE items.size items.size hi=items.size))
  (h:Q (.ref s.heap.objs.size) {s with heap:=s.heap.push {cls:= .type "tuple",data:= .seq ((items.toList.drop (aE items.size 0 lo)).take (aE items.size items.size hi - aE items.size 0 lo)).toArray}})
  (l:items.size<=sizeLine):wpAny (model prog w) A (getItem (.ref t) (.ref c)) Q E s:=by
 have a:sizeOk (.seq ((items.toList.drop (aE items.size 0 lo)).take (aE items.size items.size hi - aE items.size 0 lo)).toArray):=by
  show((items.toList.drop (aE items.size 0 lo)).take (aE items.size items.size hi - aE items.size 0 lo)).toArray.size<=sizeLine
  rw[bT,dZ,dY,bu]
  omega
 have o:aE items.size items.size hi<=items.size:=Ep _ _ (aC _) hi
 obtain⟨os,d,e,n⟩:=id hs
 have f:s.TypeIs (.ref c) "slice":=⟨os,d,e⟩
 unfold getItem
 try with_reducible refine fV ?_
 first|refine aa (ao ?_)|skip
 refine aa (wpAny_sequenceKey b.typeIs (by decide) ?_)
 refine aa (lC (name:=Str.ofString "__getitem__") b.typeIs qW
  (g8 qW b.typeIs entry_tuple_getitem ?_ (args_tuple_getitem _ _)))
 show wpAny _ _ (Builtin.Tuple.tupleItemsOf (.ref t)>>=_) _ _ s
 refine aa (tupleItemsOf_ b ?_)
 refine aa (wpAny_typeOf f ?_)
 rw[ai (by decide)]
 refine aa (EW hs pl pu ?_)
 have g:¬((((aE items.size 0 lo:Nat):Int)==0&&(1:Int)==1&&(aE items.size items.size hi - aE items.size 0 lo)==items.size)=true):=by
  intro q
  rw[fZ,fZ] at q
  have p:((aE items.size 0 lo:Nat):Int)=0:=jN q.1.1
  have r:aE items.size items.size hi - aE items.size 0 lo=items.size:=jN q.2
  exact k ⟨by omega,by omega⟩
 show wpAny _ _ (if (((aE items.size 0 lo:Nat):Int)==0&&(1:Int)==1&&(aE items.size items.size hi - aE items.size 0 lo)==items.size)=true then _ else _) _ _ s
 rw[aj g,DN]
 first
  |exact aa (m:=Builtin.Tuple.tupleExact _) (dh (ao ⟨_,rfl,ao h⟩) a)
  |exact aa (m:=Builtin.Tuple.tupleExact _) (dh (aa (ao (ao ⟨_,rfl,ao h⟩))) a)
  |exact aa (aa (m:=Builtin.Tuple.tupleExact _) (dh (ao (ao ⟨_,rfl,ao h⟩)) a))
  |exact aa (aa (m:=Builtin.Tuple.tupleExact _) (dh (ao ⟨_,rfl,ao h⟩) a))
end
end HT
section
open PySem PySem.Spec PyProof.Rows
namespace L2
abbrev TO:=St->Hp->(Option Int->Hp->Prop)->Prop
def PO(X:Cx)(e:Option Expr)(t:TO):Prop:=
 ∀(pins:aF) (s:Shared) (σ:St) (H:Hp) (Q:Option Int->Hp->Prop),Inv X pins σ H s->t σ H Q->
  wpAny (model X.prog X.w) X.A (evalPart e X.env) (λu s'=>∃o H',Inv X pins σ H' s'/\IsPart u o/\Q o H') X.xe s
def Fy:TO:=λ_ H Q=>Q none H
def FE(t:TE):TO:=λσ H Q=>t σ H λx H1=>∃i,x=.int i/\Q (some i) H1
section
variable{X:Cx}{e:Expr}{te:TE}{lo hi:Option Expr}{tl th:TO}{pos p2:Pos}
theorem DQ:PO X none Fy:=by
 intro pins s σ H Q I h;rw[evalPart_none];exact ao ⟨none,H,I,.none,h⟩
theorem DR(h:PE X e te):PO X (some e) (FE te):=by
 intro pins s σ H Q I a;rw[evalPart_some];refine aD (h pins s σ H _ I a) λu f ⟨x,H1,b,c,d⟩=>?_;obtain⟨i,rfl,q⟩:=d;obtain⟨t,rfl⟩:=c;exact⟨some i,H1,b,.int i t,q⟩
def iB(X:Cx)(r:V->Option Int->Option Int->Hp->VK->Prop):Prop:=
 ∀(pins:aF) (s:Shared) (σ:St) (H:Hp) (x:V) (v vl vu:Value) (lo hi:Option Int) (sl:Addr) (Q:VK),Inv X pins σ H s->RelV x v->s.heap.IsSliceOf sl vl vu .none->IsPart vl lo->IsPart vu hi->r x lo hi H Q->
  ∃T id,typeLookup (.type T) "__getitem__"=pure (some (.builtin id))/\s.TypeIs v T/\wpAny (model X.prog X.w) X.A (getItem v (.ref sl)) (EP X pins σ Q) X.xe s
theorem iB.or{r r':V->Option Int->Option Int->Hp->VK->Prop}(h:iB X r)(h':iB X r'):iB X (λx lo hi H Q=>r x lo hi H Q\/r' x lo hi H Q):=by
 intro pins s σ H x v a b lo hi c Q I d hs pl pu q;rcases q with q|q
 .exact h pins s σ H x v a b lo hi c Q I d hs pl pu q
 .exact h' pins s σ H x v a b lo hi c Q I d hs pl pu q
def FI(r:V->Option Int->Option Int->Hp->VK->Prop)(te:TE)(tl th:TO):TE:=λσ H Q=>te σ H λx H1=>tl σ H1 λl H2=>th σ H2 λu H3=>r x l u H3 Q
theorem DA{r:V->Option Int->Option Int->Hp->VK->Prop}(g:iB X r)(i:PE X e te)(j:PO X lo tl)(k:PO X hi th):PE X (.Subscript e (.Slice lo hi none p2) pos) (FI r te tl th):=by
 intro pins s σ H Q I h;refine Subscript_ (aD (i pins s σ H _ I h) λv m ⟨x,H1,n,o,p⟩=>?_);refine wpAny_Slice (aD (j pins m σ H1 _ n p) λc t ⟨l,H2,y,pl,z⟩=>aD (k pins t σ H2 _ y z) λd a ⟨u,f,B,pu,C⟩=>?_);rw[evalPart_none];refine ao ?_;have D:Inv X pins σ f {a with heap:=a.heap.push {cls:=.type "slice",data:=.fields #[c,d,.none]}}:=B.kept (t':=a.toks) λb J q=>a_ _ q;obtain⟨T,id,E,F,G⟩:=g pins {a with heap:=a.heap.push {cls:=.type "slice",data:=.fields #[c,d,.none]}} σ f x v c d l u a.heap.objs.size Q D o (Heap.IsSliceOf.new ..) pl pu C;show wpAny (model X.prog X.w) X.A (subscriptTail e (.Slice lo hi none p2) v (.ref a.heap.objs.size)) (EP X pins σ Q) X.xe {a with heap:=a.heap.push {cls:=.type "slice",data:=.fields #[c,d,.none]}};exact tail_any (ops:=[.ref a.heap.objs.size,v]) F E G (by with_unfolding_all rfl)
def gO(xs:List V)(lo hi:Option Int):List V:=(xs.drop (HT.aE xs.length 0 lo)).take (HT.aE xs.length xs.length hi - HT.aE xs.length 0 lo)
theorem sF(xs:List V)(lo hi:Option Int):(gO xs lo hi).length<=xs.length:=by
 unfold gO;rw[dZ,dY];omega
def Ed(K:Frag):V->Option Int->Option Int->Hp->VK->Prop:=λx lo hi H Q=>∃a xs,x=.ref a/\bg K H a xs/\
 ¬(HT.aE xs.length 0 lo=0/\HT.aE xs.length xs.length hi=xs.length)/\∀p,H p=none->Q (.ref p) (upd H p (.tup (gO xs lo hi)))
theorem EV:iB X (Ed X.K):=by
 intro pins s σ H x v j k lo hi l Q I f hs pl pu h;obtain⟨a,xs,rfl,g,i,q⟩:=h;cases f;obtain⟨its,r,d,e⟩:=I.tuple g;have c:its.toArray.size=xs.length:=by rw[bT];exact r.length.symm
 refine⟨"tuple",_,qW.lookup,d.typeIs,?_⟩;refine HT.AK d hs pl pu (by rw[c];exact i) ?_ (by rw[c];exact e);rw[c];refine⟨.ref s.heap.objs.size,_,I.laid (t':=s.toks) (o:=.tup (gO xs lo hi)) (λb m q=>a_ _ q) (aC _) ?_,rfl,q _ (I.hok.fresh (aC _))⟩;exact⟨cO (sF xs lo hi) e,_,(r.drop (HT.aE xs.length 0 lo)).take (HT.aE xs.length xs.length hi - HT.aE xs.length 0 lo),iD.new _ _⟩
def Ea(K:Frag):R2:=λx y H Q=>∃a b xs ys,x=.ref a/\y=.ref b/\bg K H a xs/\bg K H b ys/\xs≠[]/\xs.length+ys.length<=sizeLine/\
 (ys=[]->Q (.ref a) H)/\(ys≠[]->∀p,H p=none->Q (.ref p) (upd H p (.tup (xs++ys))))
theorem Vals.qo{xs:List V}{a:List Value}(r:Vals xs a):a=[]↔xs=[]:=by
 cases r with
 |nil=>simp
 |cons _ _=>simp
theorem C1:aO X (binaryOp .Add) (Ea X.K):=by
 intro pins s σ H x y v u Q I g i h;obtain⟨a,b,xs,ys,rfl,rfl,j,k,l,e,m,n⟩:=h;cases g;cases i;obtain⟨its,d,p1,_⟩:=I.tuple j;obtain⟨f,c,p2,_⟩:=I.tuple k;refine HT.yz p1 p2 (λz=>l (d.qo.mp z)) (λz=>⟨.ref a,H,I,rfl,m (c.qo.mp z)⟩) (λz=>?_) (by rw[<-d.length,<-c.length];exact e);refine⟨.ref s.heap.objs.size,_,I.laid (t':=s.toks) (o:=.tup (xs++ys)) (λb p q=>a_ _ q) (aC _) ?_,rfl,n (λw=>z (c.qo.mpr w)) _ (I.hok.fresh (aC _))⟩;exact⟨by rw[bV];exact e,_,d.append c,iD.new _ _⟩
end
def gn(n:Nat)(i:Int):Option Nat:=if 0<=i then (if i<n then some i.toNat else none) else if -(n:Int)<=i then some (i+n).toNat else none
def bK{α:Type}(xs:List α)(i:Int):Option α:=(gn xs.length i).bind λj=>xs[j]?
theorem Bt{n:Nat}{i:Int}{j:Nat}(h:gn n i=some j):seqIndex? i n=some j/\j<n/\-(n:Int)<=i/\i<n:=by
 unfold gn at h;by_cases h0:0<=i
 .rw[ai h0] at h
  by_cases h1:i<n
  .rw[ai h1] at h
   have e:i.toNat=j:=Option.some.inj h;exact⟨by rw[seqIndex_of h0 h1,e],by omega,by omega,h1⟩
  .rw[aj h1] at h;cases h
 .rw[aj h0] at h
  by_cases h1: -(n:Int)<=i
  .rw[ai h1] at h
   have e:(i+n).toNat=j:=Option.some.inj h;exact⟨by rw[seqIndex_neg (by omega) h1,e],by omega,h1,by omega⟩
  .rw[aj h1] at h;cases h
theorem oV{α:Type}{xs:List α}{i:Int}{v:α}(h:bK xs i=some v):∃j,seqIndex? i xs.length=some j/\xs[j]?=some v/\j<xs.length/\-(xs.length:Int)<=i/\i<xs.length:=by
 unfold bK at h;cases e:gn xs.length i with
 |none=>rw[e] at h;cases h
 |some j=>
  rw[e] at h;obtain⟨h1,h2,h3,a⟩:=Bt e;exact⟨j,h1,h,h2,h3,a⟩
theorem ye{α:Type}{xs:List α}{j:Nat}{v:α}(h:xs[j]?=some v):bK xs (j:Int)=some v:=by
 have a:j<xs.length:=(b6.mp h).1;have e:gn xs.length (j:Int)=some j:=by
  unfold gn;rw[ai (by omega),ai (by omega)];simp
 unfold bK;rw[e];exact h
def oM(b:Expr):Prop:=∀o i,subscripted b false o i=operate [o,i] (getItem o i)
def fh(X:Cx)(r:R2):Prop:=
 ∀(value slice:Expr) (pins:aF) (s:Shared) (σ:St) (H:Hp) (x y:V) (v u:Value) (Q:VK),Inv X pins σ H s->RelV x v->RelV y u->r x y H Q->
  subscripted slice false v u=operate [v,u] (getItem v u)->wpAny (model X.prog X.w) X.A (subscriptTail value slice v u) (EP X pins σ Q) X.xe s
def rC(X:Cx)(id:String)(r:V->List V->Hp->VK->Prop):Prop:=
 ∀(pins:aF) (s:Shared) (σ:St) (H:Hp) (x:V) (xs:List V) (v:Value) (us:List Value) (Q:VK),Inv X pins σ H s->RelV x v->Vals xs us->r x xs H Q->
  wpAny (model X.prog X.w) X.A (call (.builtin id) (v::us)) (EP X pins σ Q) X.xe s
section
variable{X:Cx}{a b:Expr}{ta tb:TE}{pos:Pos}
theorem fh.or{r r':R2}(h:fh X r)(h':fh X r'):fh X (λx y H Q=>r x y H Q\/r' x y H Q):=by
 intro value slice pins s σ H x y v u Q I a b q hs;rcases q with q|q
 .exact h value slice pins s σ H x y v u Q I a b q hs
 .exact h' value slice pins s σ H x y v u Q I a b q hs
theorem Dv{r:R2}(c:fh X r)(d:PE X a ta)(e:PE X b tb)(hs:oM b):PE X (.Subscript a b pos) (lg r ta tb):=by
 intro pins s σ H Q I h;exact Subscript_ (oX d e I h λv u f x y H2 g i j q=>c a b pins f σ H2 x y v u Q g i j q (hs _ _))
def vO(K:Frag):R2:=λx y H Q=>∃p xs i v,x=.ref p/\y=.int i/\aX K H p xs/\bK xs i=some v/\Q v H
def vQ(K:Frag):R2:=λx y H Q=>∃p xs i v,x=.ref p/\y=.int i/\bg K H p xs/\bK xs i=some v/\Q v H
def vP:R2:=λx y H Q=>∃z i c,x=.str z/\y=.int i/\z.length<=sizeLine/\bK z.cps.toList i=some c/\Q (.str ⟨#[c]⟩) H
theorem Bv:fh X (vO X.K):=by
 intro value slice pins s σ H x y v u Q I d e h hs;obtain⟨p,xs,i,z,rfl,rfl,hq,f,q⟩:=h;cases d;obtain⟨t,rfl⟩:=e;obtain⟨its,r,pl,m⟩:=I.list hq;obtain⟨j,h1,h2,h3,g,k⟩:=oV f;obtain⟨w,c,a⟩:=r.get h2;have l:=r.length;have hn:=kG;have fin:EP X pins σ Q w s:=⟨z,H,I,a,q⟩;by_cases h0:0<=i
 .have b:i.toNat=j:=by
   rw[seqIndex_of h0 k] at h1;exact Option.some.inj h1
  exact item_listR pl.isList h0 (by omega) (by rw[b];simpa using c) fin hs
 .have b:(i+(its.toArray.size:Int)).toNat=j:=by
   rw[seqIndex_neg (by omega) g] at h1;rw[bT,<-l];exact Option.some.inj h1
  exact subscriptTail_builtinR (x:=w) pl.isList.typeIs slot_list_getitem.lookup
   (wpAny_getItem_list_neg (Q:=λr s'=>r=w/\EP X pins σ Q r s') pl.isList (by omega) (by rw[bT]<;>omega) (by omega) (by rw[b];simpa using c) ⟨rfl,fin⟩) hs
theorem By:fh X (vQ X.K):=by
 intro value slice pins s σ H x y v u Q I b c h hs;obtain⟨p,xs,i,z,rfl,rfl,hq,d,q⟩:=h;cases b;obtain⟨t,rfl⟩:=c;obtain⟨its,r,pl,g⟩:=I.tuple hq;obtain⟨j,h1,h2,h3,k,l⟩:=oV d;obtain⟨w,e,a⟩:=r.get h2;have f:=r.length;have hn:=kG;have fin:EP X pins σ Q w s:=⟨z,H,I,a,q⟩;exact subscriptTail_builtinR (x:=w) pl.typeIs slot_tuple_getitem.lookup
  (getItem_tuple (j:=j) (Q:=λr s'=>r=w/\EP X pins σ Q r s') pl (by omega) (by omega) (by rw[bT,<-f];exact h1) (by simpa using e) ⟨rfl,fin⟩) hs
theorem Bx:fh X vP:=by
 intro value slice pins s σ H x y v u Q I a b h hs;obtain⟨z,i,c,rfl,rfl,m,d,q⟩:=h;obtain⟨t,rfl⟩:=a;obtain⟨t',rfl⟩:=b;obtain⟨j,h1,h2,h3,e,f⟩:=oV d;have g:z.cps.toList.length=z.length:=by simp[Str.length]
 rw[g] at h1 e f;have hn:=kG;exact tail_any (typeIs_str s z t) slot_str_getitem.lookup (getItem_str (c:=c) (by
  have k:decide (i< -(2 ^ 63:Int))=false:=eG (by omega);have l:decide (i≥2 ^ 63)=false:=eG (by omega);rw[k,l,Bool.or_false]) (by rw[h1];simpa using h2) ⟨.str ⟨#[c]⟩,H,I.tok _,⟨_,rfl⟩,q⟩) hs
def vL(K:Frag):R2:=λx y H Q=>vO K x y H Q\/vQ K x y H Q\/vP x y H Q
theorem Bw:fh X (vL X.K):=Bv.or (By.or Bx)
theorem EY(lo hi:Option Int)(n:Nat):(sliceBounds lo hi none n).1=((HT.aE n 0 lo:Nat):Int)/\(sliceBounds lo hi none n).2.1=((HT.aE n n hi:Nat):Int)/\(sliceBounds lo hi none n).2.2=1:=by
 refine⟨?_,?_,rfl⟩
 .cases lo with
  |none=>simp[sliceBounds,HT.aE]
  |some i=>
   simp only[sliceBounds,HT.aE,getD_none,show(1:Int)>0 by decide,eH];by_cases h:i<0
   .simp only[h,eH]<;>omega
   .simp only[h,bH]<;>omega
 .cases hi with
  |none=>simp[sliceBounds,HT.aE]
  |some i=>
   simp only[sliceBounds,HT.aE,getD_none,show(1:Int)>0 by decide,eH];by_cases h:i<0
   .simp only[h,eH]<;>omega
   .simp only[h,bH]<;>omega
theorem EX(its:List Value)(lo hi:Option Int):slicePick its.toArray lo hi none=((its.drop (HT.aE its.length 0 lo)).take (HT.aE its.length its.length hi - HT.aE its.length 0 lo)).toArray:=by
 obtain⟨h1,h2,h3⟩:=EY lo hi its.toArray.size;unfold slicePick;rw[h1,h2,h3];simp only[sliceRange_one,pick_run,bT]<;>rfl
def Ec(K:Frag):V->Option Int->Option Int->Hp->VK->Prop:=λx lo hi H Q=>∃a xs,x=.ref a/\aX K H a xs/\∀p,H p=none->Q (.ref p) (upd H p (.lst (gO xs lo hi)))
theorem EU:iB X (Ec X.K):=by
 intro pins s σ H x v i j lo hi k Q I e hs pl pu h;obtain⟨a,xs,rfl,f,q⟩:=h;cases e;obtain⟨its,r,d,g⟩:=I.list f;have c:=r.length;refine⟨"list",_,slot_list_getitem.lookup,d.isList.typeIs,?_⟩;refine wpAny_getItem_list_slice d.isList hs pl pu .none (by simp) ?_ (by rw[bT]<;>omega);rw[EX,<-c];refine⟨.ref s.heap.objs.size,_,I.laid (t':=s.toks) (o:=.lst (gO xs lo hi)) (λb l q=>a_ _ q) (aC _) ?_,rfl,q _ (I.hok.fresh (aC _))⟩;exact⟨cO (sF xs lo hi) g,_,0,(r.drop (HT.aE xs.length 0 lo)).take (HT.aE xs.length xs.length hi - HT.aE xs.length 0 lo),bL _ rfl⟩
theorem yp:d_ X (.builtin "len") (λxs H Q=>∃p ys,xs=[.ref p]/\(aX X.K H p ys\/bg X.K H p ys)/\Q (.int ys.length) H):=by
 intro pins s σ H xs d Q I r h;obtain⟨p,ys,rfl,hq,q⟩:=h;obtain⟨u,rfl,b⟩:=vals1 r;cases b;have hn:=kG;rcases hq with hq|hq
 .obtain⟨its,r',pl,c⟩:=I.list hq
  have a:=r'.length;exact Calls.call_len_list pl.isList (by simp only[bT]<;>omega) ⟨.int ys.length,H,I.tok _,⟨s.toks+1,by rw[bT,a]⟩,q⟩
 .obtain⟨its,r',pl,c⟩:=I.tuple hq
  have a:=r'.length;exact len_tuple pl (by simp only[bT]<;>omega) ⟨.int ys.length,H,I.tok _,⟨s.toks+1,by rw[bT,a]⟩,q⟩
theorem yq:d_ X (.builtin "len") (λxs H Q=>∃z,xs=[.str z]/\z.length<=sizeLine/\Q (.int z.length) H):=by
 intro pins s σ H xs a Q I r h;obtain⟨z,rfl,b,q⟩:=h;obtain⟨u,rfl,t,rfl⟩:=vals1 r;have hn:=kG;exact len_str (by omega) ⟨.int z.length,H,I.tok _,⟨_,rfl⟩,q⟩
theorem d_.or{f:Value}{r r':List V->Hp->VK->Prop}(h:d_ X f r)(h':d_ X f r'):d_ X f (λxs H Q=>r xs H Q\/r' xs H Q):=by
 intro pins s σ H xs a Q I rs q;rcases q with q|q
 .exact h pins s σ H xs a Q I rs q
 .exact h' pins s σ H xs a Q I rs q
def qR(K:Frag)(T:String)(x:V)(H:Hp):Prop:=match x with
 |.str _=>T="str"
 |.int _=>T="int"
 |.ref p=>(T="list"/\∃xs,aX K H p xs)\/(T="tuple"/\∃o,K.lookup p=some o/\o.cls=.type "tuple"/\o.dict=none)\/
  (T="dict"/\((∃kvs,H p=some (.dK kvs))\/∃kvs,H p=some (.dT kvs)))\/(T="set"/\∃S n,H p=some (.set S n))
 |_=>False
theorem F5{pins:aF}{σ:St}{H:Hp}{s:Shared}{T:String}{x:V}{v:Value}(I:Inv X pins σ H s)(r:RelV x v)(ty:qR X.K T x H):
  s.TypeIs v T/\∀a,v=.ref a->∃d,s.heap.get? a=some d/\d.dict=none:=by
 cases x with
 |str z=>
  obtain⟨t,rfl⟩:=r;cases (show T="str" from ty);exact⟨typeIs_str s z t,λ_ e=>nomatch e⟩
 |int i=>
  obtain⟨t,rfl⟩:=r;cases (show T="int" from ty);exact⟨typeIs_int s i t,λ_ e=>nomatch e⟩
 |ref p=>
  cases r;rcases ty with⟨rfl,xs,hq⟩|⟨rfl,o,hk,hc,hd⟩|⟨rfl,hk⟩|⟨rfl,S,n,hk⟩
  .obtain⟨its,_,pl,_⟩:=I.list hq
   refine⟨pl.isList.typeIs,λa e=>?_⟩;cases e;obtain⟨o,n,e,c,hd,_⟩:=pl;exact⟨o,e,hd⟩
  .refine⟨⟨o,I.cH p o hk,hc⟩,λa e=>?_⟩
   cases e;exact⟨o,I.cH _ o hk,hd⟩
  .have z:∃o,s.heap.get? p=some o/\o.ExactDict:=by
    rcases hk with⟨kvs,hk⟩|⟨kvs,hk⟩
    .obtain⟨_,_,_,_,o,_,_,e,ex,_⟩:=I.hok p _ hk
     exact⟨o,e,ex⟩
    .obtain⟨_,_,_,_,o,_,_,e,ex,_⟩:=I.hok p _ hk
     exact⟨o,e,ex⟩
   obtain⟨o,e,ex⟩:=z;refine⟨⟨o,e,ex.1⟩,λa b=>?_⟩;cases b;exact⟨o,e,ex.2.1⟩
  .obtain⟨o,_,_,_,e,ex,_⟩:=I.hok p _ hk
   refine⟨⟨o,e,ex.1⟩,λa b=>?_⟩;cases b;exact⟨o,e,ex.2.1⟩
 |_=>exact False.elim ty
def Fj(K:Frag)(T:String)(r:V->List V->Hp->VK->Prop)(to:TE)(t:TA):TE:=λσ H Q=>to σ H λx H1=>qR K T x H1/\t σ H1 λxs H2=>r x xs H2 Q
variable{o e:Expr}{es:List Expr}{to:TE}{t:TA}{name:Str}{apos cpos:Pos}{T id:String}{r:V->List V->Hp->VK->Prop}
theorem Dj(pa:PlainAttrs T)(slot:Slot T name id)(f:typeOf (.builtin id)=pure (.type "method_descriptor"))(k:rC X id r)(l:PE X o to)(m:PA X (e::es) t)
  (b:attributeBase o name X.env (eval o X.env)=eval o X.env:=by rfl)
  (d:((backTo cpos (starEach (e::es) X.env)).all (λx=> !x.1)&&(backToKw cpos (keywordEach [] X.env)).all (λx=>x.1.isSome)
   &&decide ((e::es).length+([]:List Keyword).length+(if ([]:List Keyword).isEmpty then 0 else 1)<30))=true:=by rfl)
  (c:(apos.endLine==cpos.line)=true:=by rfl)(hs:starEach (e::es) X.env=(false,eval e X.env)::starEach es X.env:=by rfl)(a:(backTo cpos (starEach es X.env)).any (·.1)=false:=by rfl):
  PE X (.Call (.Attribute o name apos) (e::es) [] cpos) (Fj X.K T r to t):=by
 intro pins s σ H Q I h
 refine wpAny_Call_method_late b d c rfl (aD (l pins s σ H _ I h) λv n ⟨x,H1,g,i,ty,p⟩=> ?_)
 obtain⟨h1,h2⟩:=F5 g i ty
 refine⟨T,id,pa,slot,f,h1,h2,?_⟩
 have j:=m cpos pins n σ H1 _ g p
 rw[hs] at j ⊢
 refine Calls.callWith_builtin (by show(false||(backTo cpos (starEach es X.env)).any (·.1))=false;rw[a]<;>rfl) (Calls.evalArgs_plain ?_)
 exact aD j λq u ⟨vs,H2,w,y,z⟩=>k pins u σ H2 x vs v q Q w i y z
end
def rB(X:Cx)(id:String)(r:V->List V->Hp->VK->Prop):Prop:=
 ∀(pins:aF) (s:Shared) (σ:St) (H:Hp) (x:V) (xs:List V) (v:Value) (us:List Value) (Q:VK),Inv X pins σ H s->RelV x v->Vals xs us->r x xs H Q->
  wpAny (model X.prog X.w) X.A (call (.builtin id) (v::us)) (EP X pins σ Q) X.xe s
theorem Vals.one:∀{x:V} {a:List Value},Vals [x] a->∃u,a=[u]/\RelV x u
 |_,_,.cons r .nil=>⟨_,rfl,r⟩
section
variable{X:Cx}{pins:aF}{σ:St}{H:Hp}{s:Shared}{l b:Addr}{xs ys zs:List V}
theorem Inv.uR{its its':List Value}{n:Nat}{f:Array Value->Array Value}{t':Nat}(I:Inv X pins σ H s)(a:H l=some (.lst xs))
  (e:s.heap.get? l=some {cls:=.type "list",data:=.seq its.toArray n})(b:f its.toArray=its'.toArray)(c:Vals ys its')(d:ys.length<=sizeLine):
  Inv X pins σ (upd H l (.lst ys)) {s with heap:=s.heap.update l (Obj.mapSeq f),toks:=t'}:=by
 have q:=PySem.IsL.update e f;rw[b] at q;refine I.write (x:=l) (e:=l) (by rw[a];exact trivial) (.inl rfl) (λi u g h=>(ig s.heap (Obj.mapSeq f) (Ne.symm g)).trans h) ⟨_,q⟩ ?_;exact⟨d,its',_,c,q⟩
theorem Inv.uP{its:List Value}{t':Nat}(I:Inv X pins σ H s)(a:Vals ys its)(b:ys.length<=sizeLine):
  Inv X pins σ (upd H s.heap.objs.size (.lst ys)) {s with heap:=s.heap.push {cls:=.type "list",data:=.seq its.toArray},toks:=t'}:=
 I.laid (λ_ _ q=>a_ _ q) (aC _) ⟨b,its,0,a,bL _ rfl⟩
theorem Inv.fresh(I:Inv X pins σ H s):H s.heap.objs.size=none:=I.hok.fresh (aC _)
theorem Inv.kH(I:Inv X pins σ H s)(a:H l=some (.lst xs)):xs.length<=sizeLine/\∃(its:List Value) (n:Nat),Vals xs its/\xs.length=its.length/\s.heap.get? l=some {cls:=.type "list",data:=.seq its.toArray n}:=by
 obtain⟨z,its,n,r,e⟩:=I.hok l _ a;exact⟨z,its,n,r,r.length,e⟩
theorem CK{n:Nat}(h:n<=sizeLine):Builtin.List.listTooLong n=false:=by
 unfold Builtin.List.listTooLong;exact eG (by omega)
end
section
variable{X:Cx}
def vH:V->List V->Hp->VK->Prop:=λx vs H Q=>∃l xs y,x=.ref l/\vs=[y]/\H l=some (.lst xs)/\xs.length<sizeLine/\Q .aJ (upd H l (.lst (xs++[y])))
theorem ql:rB X "list.append" vH:=by
 intro pins s σ H x vs v d Q I b c h;obtain⟨l,xs,y,rfl,rfl,a,f,q⟩:=h;cases b;obtain⟨u,rfl,ru⟩:=c.one;obtain⟨z,its,n,r,g,e⟩:=I.kH a;refine call_meets F.slot_list_append ⟨_,e,rfl⟩ F.entry_list_append (F.args_list_append_2 _ _) (PySem.list_append l its.toArray n u (by rw[bT];omega)) ⟨e,?_⟩;refine⟨.aJ,_,I.uR (its':=its++[u]) a e (by simp) (r.append (.cons ru .nil)) ?_,rfl,q⟩;rw[bV,gH];omega
def vK:V->List V->Hp->VK->Prop:=λx vs H Q=>∃l b xs zs,x=.ref l/\vs=[.ref b]/\H l=some (.lst xs)/\H b=some (.lst zs)/\xs.length+zs.length<=sizeLine/\Q .aJ (upd H l (.lst (xs++zs)))
theorem Cr:rB X "list.extend" vK:=by
 intro pins s σ H x vs v t Q I g i h;obtain⟨l,b,xs,zs,rfl,rfl,f,j,w,q⟩:=h;cases g;obtain⟨u,rfl,ru⟩:=i.one;cases ru;obtain⟨z,its,n,r,y,e⟩:=I.kH f;obtain⟨A,a,k,m,o,p⟩:=I.kH j;have d:its.toArray.size+a.toArray.size<=sizeLine:=by rw[bT,bT];omega
 have c:¬(!its.toArray.isEmpty&&Builtin.List.listTooLong (its.toArray.size+a.toArray.size))=true:=by
  rw[CK d,Bool.and_false];exact b7
 refine call_meets F.slot_list_extend ⟨_,e,rfl⟩ F.entry_list_extend (F.args_list_extend_2 _ _)
  (AutoSeq1.list_extend_list_list_0 l its.toArray n b a.toArray k c (by rw[bT];omega) (by omega)) ⟨e,p,?_⟩
 refine⟨.aJ,_,I.uR (its':=its++a) f e (by simp) (r.append m) ?_,rfl,q⟩;rw[bV];omega
def vI:R2:=λx y H Q=>∃l b xs zs,x=.ref l/\y=.ref b/\H l=some (.lst xs)/\H b=some (.lst zs)/\xs.length+zs.length<=sizeLine/\∀p,H p=none->Q (.ref p) (upd H p (.lst (xs++zs)))
theorem CZ:aO X (binaryOp .Add) vI:=by
 intro pins s σ H x y v u Q I c d h;obtain⟨l,b,xs,zs,rfl,rfl,f,g,o,q⟩:=h;cases c;cases d;obtain⟨z,its,n,r,p,e⟩:=I.kH f;obtain⟨t,a,w,i,j,k⟩:=I.kH g;refine PySem.P.add_list e k ?_ (by rw[bT,bT];omega);have m:its.toArray++a.toArray=(its++a).toArray:=by simp
 rw[m];exact⟨.ref _,_,I.uP (t':=s.toks) (r.append i) (by rw[bV];omega),rfl,q _ I.fresh⟩
end
section
variable{κ:Type}[DecidableEq κ]
def dc(kvs:List (κ×V))(k:κ):Option V:=(kvs.find? λkv=>decide (kv.1=k)).map (·.2)
theorem xx{p:κ×V}{r:List (κ×V)}{k:κ}(e:p.1=k):dc (p::r) k=some p.2:=by simp[dc,iX,e]
theorem xw{p:κ×V}{r:List (κ×V)}{k:κ}(e:¬p.1=k):dc (p::r) k=dc r k:=by simp[dc,iX,e]
theorem KV.val{kvs:List (κ×V)}{vs:List (κ×Value)}(r:KV kvs vs)(k:κ):gf (dc kvs k) (valueAt vs k):=by
 unfold KV at r;induction r with
 |nil=>exact True.intro
 | @cons p q ps qs h t c=>
  obtain⟨h1,h2⟩:=h;by_cases e:p.1=k
  .have a:q.1=k:=h1.symm.trans e
   have b:valueAt (q::qs) k=some q.2:=by simp[valueAt,iX,a]
   rw[xx e,b];exact h2
  .have a:¬q.1=k:=λz=>e (h1.trans z)
   have b:valueAt (q::qs) k=valueAt qs k:=by simp[valueAt,iX,a]
   rw[xw e,b];exact c
theorem KV.length{kvs:List (κ×V)}{vs:List (κ×Value)}(r:KV kvs vs):kvs.length=vs.length:=Paired.length r
end
theorem uy{P:Program}{w:World}{k:Key}{u:Value}(r:RelV (kV k) u):(fS P w).is k u=true:=by
 cases k with
 |inl i=>obtain⟨t,e⟩:=(show ∃t,u=Value.int i t from r);subst e;exact Cn P w i t
 |inr x=>obtain⟨t,e⟩:=(show ∃t,u=Value.str x t from r);subst e;exact Co P w x t
theorem uw{P:Program}{w:World}:∀{a:List Key} {b:List Value},Vals (a.map kV) b->ItemsAre (fS P w) a b
 |[],_,r=>by rw[List.map_nil] at r;cases r;exact .nil
 |k::a,_,r=>by
  rw[f7] at r;cases r with
  |cons h t=>exact .cons (uy h) (uw t)
abbrev KT(H:Hp):List (List Key×V)->List (List Key×Addr×Value)->Prop:=Paired λp q=>p.1=q.1/\H q.2.1=some (.tup (p.1.map kV))/\RelV p.2 q.2.2
theorem KT.val{H:Hp}{kvs:List (List Key×V)}{xs:List (List Key×Addr×Value)}(r:KT H kvs xs)(k:List Key):gf (dc kvs k) ((atKey xs k).map (·.2)):=by
 induction r with
 |nil=>exact True.intro
 | @cons p q ps qs h t c=>
  obtain⟨h1,_,h2⟩:=h;by_cases e:p.1=k
  .have a:q.1=k:=h1.symm.trans e
   have b:atKey (q::qs) k=some q.2:=by simp[atKey,iX,a]
   rw[xx e,b];exact h2
  .have a:¬q.1=k:=λz=>e (h1.trans z)
   have b:atKey (q::qs) k=atKey qs k:=by simp[atKey,iX,a]
   rw[xw e,b];exact c
section
variable{P:Program}{w:World}{H:Hp}{h:Heap}{a:Addr}
theorem vV{u:HO}(ok:bB P w H h)(e:Rd H a u):b9 P w H h a u:=e.ok ok
theorem pH{kvs:List (Key×V)}(ok:bB P w H h)(e:Rd H a (.dK kvs)):kvs.length<=sizeLine/\(a==sysModules)=false/\∃vs,KV kvs vs/\h.DictOf (fS P w) a vs:=
 show b9 P w H h a (.dK kvs) from vV ok e
theorem uA{b:List Key}(ok:bB P w H h)(e:H a=some (.tup (b.map kV))):(tupleKind (fS P w)).is h b a:=by
 obtain⟨_,its,r,p⟩:=(show b9 P w H h a (.tup (b.map kV)) from ok a _ e);obtain⟨o,h1,h2,n,h3⟩:=p.is;exact⟨o,its.toArray,n,h1,h2,h3,by simpa using uw r⟩
theorem s9{kvs:List (List Key×V)}(ok:bB P w H h)(e:Rd H a (.dT kvs)):kvs.length<=sizeLine/\(a==sysModules)=false/\
  ∃xs,KT H kvs xs/\h.DictOfH (tupleKind (fS P w)) a xs:=by
 obtain⟨z,y,xs,r,o,es,ep,h1,h2,h3,b,c⟩:=(show b9 P w H h a (.dT kvs) from vV ok e);refine⟨z,y,xs,r,o,es,ep,h1,h2,h3,b,λx hx=>?_,c⟩;have all:∀{l:List (List Key×V)} {m:List (List Key×Addr×Value)},KT H l m->∀x∈m,(tupleKind (fS P w)).is h x.1 x.2.1:=by
  intro l m q;induction q with
  |nil=>intro x hx;exact nomatch hx
  | @cons p q ps qs hq t d=>
   intro x hx;rcases aR.mp hx with e|hx
   .subst e
    exact uA ok (by rw[<-hq.1];exact hq.2.1)
   .exact d x hx
 exact all r x hx
end
def oF(H:Hp)(a:Addr)(y:V)(r:Option V):Prop:=
 (∃kvs k,Rd H a (.dK kvs)/\y=kV k/\r=dc kvs k)\/∃kvs k b,Rd H a (.dT kvs)/\y=.ref b/\H b=some (.tup (k.map kV))/\r=dc kvs k
section
variable{X:Cx}{pins:aF}{σ:St}{H:Hp}{s:Shared}{a:Addr}{y v:V}{u r:Value}{o:Option V}{A:Around}{E:aA}
theorem zk{Q:aA}(n:A.units+1<cLine)(I:Inv X pins σ H s)(g:oF H a y (some v))(m:RelV y u)(h:∀d s',Inv X pins σ H s'->RelV v d->Q d s'):
  wpAny (model X.prog X.w) A (getItem (.ref a) u) Q E s:=by
 rcases g with⟨kvs,k,e,f,l⟩|⟨kvs,k,b,e,f,q,l⟩
 .subst f
  obtain⟨z,hd,vs,rel,dd⟩:=pH I.hok e;obtain⟨d,i,c⟩:=gf.some_of (v:=v) (o:=valueAt vs k) (by rw[l];exact rel.val k);exact wpAny_getItem_of (uy m) dd.mapOf i (h d _ (I.tok _) c)
 .subst f
  cases (show u=Value.ref b from m);obtain⟨z,hd,xs,rel,dd⟩:=s9 I.hok e;obtain⟨d,i,c⟩:=gf.some_of (v:=v) (o:=(atKey xs k).map (·.2)) (by rw[l];exact rel.val k);obtain⟨p,r,j⟩:=iZ.mp i;refine wpAny_getItem_heap (tupleKind_room_in1 n) (uA I.hok q) dd r ?_;rw[j];exact h d _ (I.tok _) c
end
section
variable{X:Cx}{pins:aF}{σ:St}{H:Hp}{s:Shared}{a:Addr}{kvs:List (Key×V)}{k:Key}{u:Value}{A:Around}{E:aA}
theorem ef{Q:aA}(I:Inv X pins σ H s)(e:Rd H a (.dK kvs))(h:∀t s',Inv X pins σ H s'->Q (.int kvs.length t) s'):wpAny (model X.prog X.w) A (call (.builtin "len") [.ref a]) Q E s:=by
 obtain⟨z,hd,vs,rel,dd⟩:=pH I.hok e;refine call_len_dict hd dd (by rw[<-rel.length];rw[lz] at z;omega) ?_;rw[<-rel.length];exact h _ _ (I.tok _)
end
theorem zJ{X:Cx}{pins:aF}{σ:St}{H:Hp}{s:Shared}{a:Addr}{y:V}{o:Option V}(I:Inv X pins σ H s)(g:oF H a y o):s.TypeIs (.ref a) "dict":=by
 rcases g with⟨kvs,k,e,_,_⟩|⟨kvs,k,b,e,_,_,_⟩
 .obtain⟨_,_,vs,_,dd⟩:=pH I.hok e
  exact dd.typeIs
 .obtain⟨_,_,xs,_,dd⟩:=s9 I.hok e
  exact dd.typeIs
end L2
end
namespace ri
open PySem PySem.W PySem.Calls PyProof.Rows
theorem Bm{P:Params}{h:Heap}:∀(ns:List Int) (vs:List Value),WellAll P h vs (ns.map WData.int)->IntsAre vs ns:=by
 intro ns;induction ns with
 |nil=>
  intro vs w;rw[List.map_nil] at w;cases w;exact .nil
 |cons n ns c=>
  intro vs w;rw[f7] at w;cases w with
  |cons a b=>
   cases a;exact .cons _ _ (c _ b)
theorem EN{l:OpenLaw}{n:Nat}(hn:l.most=some n){P:Params}{h:Heap}{args:List WData}{vals:List Value}
  (b:l.row.toRowW.claim.pre args=true)(i:WellAll P h vals args):
  ∃a vs ns,vals=[Value.ref a]/\args=[WData.list (ns.map WData.int)]/\h.get? a=some {cls:=.type "list",data:=.seq vs.toArray}/\IntsAre vs ns/\ns.length<=n:=by
 have j:WShape.hasAll [] args [.list .int]=true:=(pre_splitW b).1;have hc:l.pre.holds [] {args:=args}=true:=(pre_splitW b).2;obtain⟨d,r,rfl,h1,h2⟩:=hasAllW_cons j;obtain rfl:=hasAllW_nil h2;obtain⟨xs,rfl,h3⟩:=hasW_list h1;obtain⟨ns,rfl⟩:=items_int h3;have c:ns.length<=n:=by
  unfold OpenLaw.pre at hc;have f:(WTm.not (.lt (.lit (.int (n:Int))) (.len (.arg 0)))).holds [] {args:=[.list (ns.map .int)]}=true:=by
   have f:=(holds_andW hc).1;rw[hn] at f;exact f
  have g:=condW_of f (w_not (w_lt w_lit (w_len_list (w_arg rfl))));rw[bA] at g;refine Nat.le_of_not_lt λq=>?_;have k:(n:Int)<((ns.length:Nat):Int):=by omega
  first
   |(rw[lJ k] at g;exact absurd g (by decide))
   |(simp at g;omega)
 cases i with
 |cons m o=>
  cases o;cases m with
  |list p e=>exact⟨_,_,ns,rfl,rfl,p,Bm ns _ e,c⟩
theorem DS(l:OpenLaw)(args:List WData):l.row.toRowW.claim.post args (.bool true) args=true:=
 postW_of (r:=l.row.toRowW) (X:=(true==true))
  (show WShape.has [] (.bool true) .bool=true by first|rfl|decide|simp[WShape.has,WShape.arms,WShape.armsAll])
  (show(WTm.eq .res (.lit (.bool true))).value [] {args:=args,res:=some (.bool true),after:=args}=some (.bool (true==true)) from w_eq_bool (w_res rfl) w_lit) rfl
theorem yf{l:OpenLaw}{n:Nat}{q:Program}{loose:List Str}{p:(aq)->Heap->Prop}{s:World->Heap->Prop}{d:DefRec}
  (hn:l.most=some n)(i:d.params.defaults=[])
  (call:∀(w:World) (s₀ b:Shared) (mg mb:aq) (c:Addr) (o:Obj) (pm cd doc:Value) (a:Addr) (vs:List Value) (ns:List Int),
   Ground q loose [] p w s₀ mg mb b.heap->s w b.heap->
   b.heap.get? c=some o->o.data= .func (docDef d.name d.params d.body d.scope pm cd doc)->b.heap.CodeRec cd d.name->mg d.name=some (.ref c)->
   b.heap.get? a=some {cls:= .type "list",data:= .seq vs.toArray}->IntsAre vs ns->ns.length<=n->b.gens= #[]->
   codeAny (model l.prog w) callerA (.call (.ref c) ⟨[.ref a],[]⟩) (λr s'=>r= .ok (.ret (.bool true))/\OldK b.heap s'.heap/\s'.os=b.os/\AllBare s'.gens) b):
  WalkO q loose p s l.row.toRowW d [] (λf vs=>PySem.call f vs):=by
 intro w s₀ b mg mb G Y c o pm cd doc v kV x hd j t k y args vals as e u z m A
 obtain rfl:v= .none:=Dflts.none t i
 obtain rfl:kV= .none:=Dflts.noKw t
 obtain⟨a,vs,ns,rfl,rfl,g,hints,h⟩:=EN hn e m
 refine enter_call (lI (call w s₀ b mg mb c o pm cd doc a vs ns G Y x (fd_plain hd) j k g hints h y) λr s' hq=> ?_)
 obtain⟨rfl,h2,h3,B⟩:=hq
 exact⟨.inl ⟨.bool true,.bool true,[],rfl,λ_=>rfl,.bool true,DS l _,λ_=>⟨Pairwise.nil,λ_ C=>(nomatch C)⟩⟩,h2,h3,B⟩
end ri
section
open PySem PySem.Spec PyProof.Rows
namespace L2
theorem xA:∀{vs:List Value} {ns:List Int},IntsAre vs ns->Vals (ns.map V.int) vs
 |_,_,.nil=>.nil
 |_,_,.cons n t h=>.cons ⟨t,rfl⟩ (xA h)
def lT(H:Hp):Prop:=∀b,H b=none\/∃o xs,H b=some (.bR o (.lst xs))
theorem BV{P:Program}{w:World}{K:Frag}{mg mb:aq}{CX:eL}{k:Nat}{D a:Addr}{fd:FuncData}{x:Str}{sp:Sp}{c:Shared}{vs:List Value}{ns:List Int}
  (M:K.In c.heap)(l:c.heap.Ns mainGlobals mg)(g:c.heap.Ns builtinsNs mb)(E:∀x:Str,x≠"__name__"->mb x=bootBuiltins x)(p:c.heap.NoLimit)(T:c.gens= #[])
  (C:c.heap.get? a=some {cls:= .type "list",data:= .seq vs.toArray})(hi:IntsAre vs ns)(N:ns.length<=sizeLine)(U:bQ k callerA)
  (F:∀base:Heap,K.In base->base.Ns mainGlobals mg->cQ P w K mg base CX k D fd [x] sp)(j:∀(s:Shared) (u:Value),BindsTo s fd ⟨[u],[]⟩ [(x,u)])
  (G:∀H:Hp,lT H->aX K H a (ns.map V.int)->sp [.ref a] H (λv _=>v= .bl true) λ_ _ _=>False)
  (I:∀H e s',CX [] H c (λ_ _ _=>False) e s'->False):
  codeAny (model P w) callerA (.call (.ref D) ⟨[.ref a],[]⟩) (λr s'=>r= .ok (.ret (.bool true))/\OldK c.heap s'.heap/\s'.os=c.os/\AllBare s'.gens) c:=by
 have O:=xA hi
 have t:=hi.length
 have core:∀H:Hp,lT H->aX K H a (ns.map V.int)->bB P w H c.heap->(∀b,H b≠none->b=a)->(H a≠none->K.lookup a=none)->
   codeAny (model P w) callerA (.call (.ref D) ⟨[.ref a],[]⟩) (λr s'=>r= .ok (.ret (.bool true))/\OldK c.heap s'.heap/\s'.os=c.os/\AllBare s'.gens) c:=by
  intro H Q W hok R X
  have f:∀{b:Addr} {o:Obj},c.heap.get? b=some o->H b=none->(gm c.heap H).get? b=some o:=λe n=>AV e n
  have J:∀{b:Addr} {o:Obj} {es:Array DictEntry} {ep:Nat},c.heap.get? b=some o->o.data= .dict es ep->H b=none:=λ {b o es ep} e d=>by
   cases q:H b with
   |none=>rfl
   |some u=>
    have L:b=a:=R b (by rw[q];simp)
    subst L
    rw[C] at e;cases e
    have d':Data.seq vs.toArray _=Data.dict es ep:=d
    cases d'
  have i:∀{b:Addr} {m:aq},c.heap.Ns b m->(gm c.heap H).Ns b m:=λ {b m} ⟨o,es,ep,e,d,r⟩=>⟨o,es,ep,f e (J e d),d,r⟩
  have y:K.In (gm c.heap H):=λb o e=>f (M b o e) (by
   cases q:H b with
   |none=>rfl
   |some u=>
    have L:b=a:=R b (by rw[q];simp)
    subst L
    rw[X (by rw[q];simp)] at e;cases e)
  have Y:Mod K mg (gm c.heap H):=⟨y,i l,⟨mb,i g,E⟩,let ⟨mc,h1,h2⟩:=p;⟨mc,i h1,h2⟩⟩
  have Z:lO P w K mg (gm c.heap H) callerA [] c H:=⟨rfl,Y,λb o e=>CT e,Nat.le_of_eq (AW _ _),trivial,λb g=>absurd (show b∈([]:List Addr) from g) (by simp),hok,.of_eq T⟩
  refine lI ((F _ y (i l)).run callerA [] c H ⟨[.ref a],[]⟩ [.ref a] [.ref a] _ _ U Z (j c (.ref a)) (.cons rfl .nil) (G H Q W)) λr s' h=> ?_
  cases r with
  |error e=>exact(I H e s' h).elim
  |ok fl=>
   cases fl with
   |next=>exact False.elim h
   |brk=>exact False.elim h
   |cont=>exact False.elim h
   |ret u=>
    obtain⟨v,H',os,bare,un,A,r',q⟩:=h
    have q':v= .bl true:=q
    subst q'
    obtain rfl:u=Value.bool true:=r'
    refine⟨rfl,OldK.of_keep λb o e=> ?_,os,bare⟩
    cases q:H b with
    |none=>exact un.keep b o e q (by intro z;exact absurd (show b∈([]:List Addr) from z) (by simp)) (by simp)
    |some u=>
     rcases Q b with z|⟨ob,xs,z⟩
     .rw[q] at z;cases z
     .have z2:=un.dR b ob _ z
      obtain⟨S,_⟩:=hok b _ z
      obtain⟨e2,_⟩:=A b _ z2
      rw[e] at S;cases S
      exact e2
 cases hk:K.lookup a with
 |some o=>
  have e:=M a o hk
  rw[C] at e
  cases e
  refine core (λ_=>none) (λ_=> .inl rfl) (.inr ⟨_,vs.toArray,_,hk,rfl,rfl,rfl,by rw[bT,t];exact N,by simpa using O⟩) (λb u z=>by have B:(none:Option HO)=some u:=z;cases B) (λb z=>absurd rfl z) λz=>absurd rfl z
 |none=>
  refine core (λb=>if b=a then some (.bR {cls:= .type "list",data:= .seq vs.toArray} (.lst (ns.map V.int))) else none) (λb=> ?_) (.inl (.inr ⟨{cls:= .type "list",data:= .seq vs.toArray},ai rfl⟩)) (λb u z=> ?_) (λb z=> ?_) λ_=>hk
  .by_cases g:b=a
   .exact .inr ⟨_,_,ai g⟩
   .exact .inl (aj g)
  .by_cases g:b=a
   .have B:=(ai g).symm.trans z
    cases B
    subst g
    exact⟨C,by rw[bA];exact N,vs,_,O,C⟩
   .have B:=(aj g).symm.trans z
    cases B
  .by_cases g:b=a
   .exact g
   .exact absurd (aj g) z
theorem F8{l:PySem.W.OpenLaw}{n k:Nat}{q:Program}{loose:List Str}{C:(aq)->Heap->Prop}{A:World->Heap->Prop}{d:DefRec}{K:Params->Frag}{CX:World->eL}{sp:World->Sp}{x:Str}
  (hn:l.most=some n)(p:n<=sizeLine)(r:d.params.defaults=[])(D:bQ k callerA)
  (E:∀(w:World) (h:Heap),A w h->(K w.params).In h)
  (F:∀(w:World) (mg:aq) (m:Addr) (h:Heap),(K w.params).In h->h.Ns mainGlobals mg->mg d.name=some (.ref m)->
   ∃fd:FuncData,(∀(s:Shared) (u:Value),BindsTo s fd ⟨[u],[]⟩ [(x,u)])/\
    ∀base:Heap,(K w.params).In base->base.Ns mainGlobals mg->cQ l.prog w (K w.params) mg base (CX w) k m fd [x] (sp w))
  (t:∀(w:World) (H:Hp) (a:Addr) (ns:List Int),ns.length<=n->lT H->aX (K w.params) H a (ns.map V.int)->sp w [.ref a] H (λv _=>v= .bl true) λ_ _ _=>False)
  (y:∀(w:World) (H:Hp) (s:Shared) (e:Value) (s':Shared),CX w [] H s (λ_ _ _=>False) e s'->False):
  PySem.W.WalkO q loose C A l.row.toRowW d [] (λf vs=>PySem.call f vs):=by
 refine ri.yf hn r λw s₀ i mg mb m o pm cd doc a vs ns G Y P hd I z j hints c J=> ?_
 have B:=E w _ Y
 obtain⟨fd,L,M⟩:=F w mg m _ B G.T.g z
 exact BV B G.T.g G.T.b G.T.builtins G.T.nolimit J j hints (cO c p) D M L (λH N O=>t w H a ns c N O) λH e s'=>y w H i e s'
def gQ(s:Stmt):Arguments:=match s with
 |.FunctionDef _ a _ _ _ _ _ _ _ _=>a
 |_=>{posonlyargs:=[],args:=[],vararg:=none,kwonlyargs:=[],kw_defaults:=[],kwarg:=none,defaults:=[]}
def dQ(s:Stmt):List Stmt:=match s with
 |.FunctionDef _ _ b _ _ _ _ _ _ _=>b
 |_=>[]
def aI(s:Stmt):Scope:=match s with
 |.FunctionDef _ _ _ _ _ _ sc _ _ _=>sc
 |_=>{kind:=.function,names:=[],isGenerator:=false,isCoroutine:=false}
structure f_(K:Frag)(x qual:Str)(st:Stmt)(f:Addr)(fd:FuncData):Prop where
 ex:∃(oc:Value) (od:Option Addr) (kV doc pm:Value) (an:Option Addr) (cdv ct:Value) (osl:Array (Option Value)),
  fd=fnOf x qual (gQ st) (dQ st) (aI st) .none kV doc pm an cdv ct/\K.lookup f=some ⟨oc,od,.func fd,osl⟩/\codeIn K cdv qual=true
 kp:keepIn K (.ref f)=true
section
variable{P:Program}{w:World}{K:Frag}{mg:aq}{base:Heap}
theorem f_.binds{x qual:Str}{st:Stmt}{f:Addr}{fd:FuncData}{ps:List Str}(F:f_ K x qual st f fd)
  (h:∀(kV doc pm:Value) (an:Option Addr) (a ct:Value) (b:List Value),b.length=ps.length->bindArgs (fnOf x qual (gQ st) (dQ st) (aI st) .none kV doc pm an a ct) ⟨b,[]⟩=pure (ps.zip b)):Binds K fd ps []:=by
 obtain⟨e,g,kV,doc,pm,an,a,ct,c,rfl,lk,d⟩:=F.ex;exact .all (h kV doc pm an a ct)
theorem pR{x qual:Str}{st:Stmt}{f:Addr}{d:Value}{e an:Option Addr}{b:Array (Option Value)}{kV doc pm a ct:Value}(l:K.lookup f=some ⟨d,e,.func (fnOf x qual (gQ st) (dQ st) (aI st) .none kV doc pm an a ct),b⟩)
 (c:codeIn K a qual=true)(k:keepIn K (.ref f)=true):f_ K x qual st f (fnOf x qual (gQ st) (dQ st) (aI st) .none kV doc pm an a ct):=⟨⟨d,e,kV,doc,pm,an,a,ct,b,rfl,l,c⟩,k⟩
end
section
variable{X:Cx}
theorem yo:d_ X (.builtin "len") (λxs H Q=>∃a kvs,xs=[V.ref a]/\H a=some (.dK kvs)/\Q (.int kvs.length) H):=by
 intro pins s σ H xs d Q I r h;obtain⟨a,kvs,rfl,b,q⟩:=h;obtain⟨u,rfl,ru⟩:=vals1 r;cases ru;exact ef I (.inl b) λt s' c=>⟨.int kvs.length,H,c,⟨t,rfl⟩,q⟩
end
theorem Bq{A B:Prop}(h:B):if false=true then A else B:=by
 rw[aj b7];exact h
theorem Br{A B:Prop}(h:A):if true=true then A else B:=by
 rw[ai rfl];exact h
def bq:List (Str×NameKind)->List Str
 |[]=>[]
 |(n,k)::r=>if (k==NameKind.free)=true then n::bq r else bq r
def bW(env:Env):List (Str×NameKind)->List (Str×Addr)->List (Str×Addr)
 |[],acc=>acc
 |(n,k)::r,acc=>if (k==NameKind.free)=true then bW env r ((n,(env.cells.lookup n).getD 0)::acc) else bW env r acc
theorem o7{env:Env}{f:(Str×NameKind)->List (Str×Addr)->Sem (ForInStep (List (Str×Addr)))}
  (h1:∀n k cs c,(k==NameKind.free)=true->env.cells.lookup n=some c->f (n,k) cs=pure (.yield ((n,c)::cs)))(h2:∀n k cs,(k==NameKind.free)=false->f (n,k) cs=pure (.yield cs)):
  ∀(names:List (Str×NameKind)) (a:List (Str×Addr)),(∀n∈bq names,∃c,env.cells.lookup n=some c)->forIn names a f=pure (bW env names a)
 |[],a,_=>by rw[List.forIn_nil];rfl
 |(n,k)::r,a,h=>by
  rw[List.forIn_cons];cases e:(k==NameKind.free) with
  |true=>
   have d:bq ((n,k)::r)=n::bq r:=by show(if (k==NameKind.free)=true then n::bq r else bq r)=_;rw[ai e]
   obtain⟨c,hc⟩:=h n (by rw[d];exact cP);rw[h1 n k a c e hc,pure_bind];show forIn r ((n,c)::a) f=_;rw[o7 h1 h2 r _ λm g=>h m (by rw[d];exact cz _ g)];have b:bW env ((n,k)::r) a=bW env r ((n,(env.cells.lookup n).getD 0)::a):=by
    show(if (k==NameKind.free)=true then _ else _)=_;rw[ai e]
   rw[b,hc];rfl
  |false=>
   have d:bq ((n,k)::r)=bq r:=by show(if (k==NameKind.free)=true then n::bq r else bq r)=_;rw[aj (by rw[e];decide)]
   rw[h2 n k a e,pure_bind];show forIn r a f=_;rw[o7 h1 h2 r _ λm g=>h m (by rw[d];exact g)];have b:bW env ((n,k)::r) a=bW env r a:=by
    show(if (k==NameKind.free)=true then _ else _)=_;rw[aj (by rw[e];decide)]
   rw[b]
theorem yD{scope:Scope}{env:Env}(h:∀n∈bq scope.names,∃c,env.cells.lookup n=some c):closureFor scope env=pure (bW env scope.names []):=by
 unfold closureFor;show(forIn scope.names [] _>>=_)=_;rw[o7 (env:=env) (λn k cs c hk hc=>?_) (λn k cs hk=>?_) scope.names [] h]
 .exact pure_bind _ _
 .dsimp only
  rw[ai hk];unfold cellOf;rw[hc];rfl
 .dsimp only
  rw[aj (by rw[hk];decide)]
theorem j8{env:Env}{x:Str}:∀(names:List (Str×NameKind)) (a:List (Str×Addr)),(∀n∈bq names,∃c,env.cells.lookup n=some c)->
  (bW env names a).lookup x=if x∈bq names then env.cells.lookup x else a.lookup x
 |[],a,_=>by simp[bW,bq]
 |(n,k)::r,a,h=>by
  cases e:(k==NameKind.free) with
  |true=>
   have d:bq ((n,k)::r)=n::bq r:=by show(if (k==NameKind.free)=true then n::bq r else bq r)=_;rw[ai e]
   obtain⟨c,hc⟩:=h n (by rw[d];exact cP);have b:bW env ((n,k)::r) a=bW env r ((n,(env.cells.lookup n).getD 0)::a):=by
    show(if (k==NameKind.free)=true then _ else _)=_;rw[ai e]
   rw[b,d,j8 r _ λm g=>h m (by rw[d];exact cz _ g)];by_cases f:x∈bq r
   .rw[ai f,ai (cz _ f)]
   .rw[aj f]
    by_cases i:x=n
    .subst i
     rw[ai cP,hc];simp
    .rw[aj (by intro z;rcases aR.mp z with z|z;exact i z;exact f z)]
     have j:(x==n)=false:=by simpa using i
     rw[lookup_cons,j]
  |false=>
   have d:bq ((n,k)::r)=bq r:=by show(if (k==NameKind.free)=true then n::bq r else bq r)=_;rw[aj (by rw[e];decide)]
   have b:bW env ((n,k)::r) a=bW env r a:=by
    show(if (k==NameKind.free)=true then _ else _)=_;rw[aj (by rw[e];decide)]
   rw[b,d,j8 r _ λm g=>h m (by rw[d];exact g)]
theorem o5{x:Str}{c:Addr}:∀(names:List (Str×NameKind)) (n:Nat) (a:List (Str×Addr)),(cellsFrom n names a).lookup x=some c->(n<=c/\(x,NameKind.cell)∈names)\/a.lookup x=some c
 |[],n,a,h=>.inr h
 |(m,k)::r,n,a,h=>by
  unfold cellsFrom at h;split at h
  .rename_i hk
   rcases o5 r _ _ h with⟨h1,h2⟩|h1
   .exact .inl ⟨by omega,cz _ h2⟩
   .rw[lookup_cons] at h1
    split at h1
    .rename_i b
     cases h1;exact .inl ⟨aC _,by rw[gF.mp b,<-gF.mp hk];exact cP⟩
    .exact .inr h1
  .rcases o5 r _ _ h with⟨h1,h2⟩|h1
   .exact .inl ⟨h1,cz _ h2⟩
   .exact .inr h1
theorem o4:∀(names:List (Str×NameKind)) (n:Nat) (d:List (Str×Addr)),(∀x y c,d.lookup x=some c->d.lookup y=some c->x=y)->(∀x c,d.lookup x=some c->c<n)->
  ∀x y c,(cellsFrom n names d).lookup x=some c->(cellsFrom n names d).lookup y=some c->x=y
 |[],_,_,h,_=>h
 |(m,k)::r,n,d,h,g=>by
  unfold cellsFrom;split
  .refine o4 r _ _ (λx y c e f=>?_) λx c e=>?_
   .rw[lookup_cons] at e f
    split at e<;>split at f
    .rename_i _ a _ b
     rw[gF.mp a,gF.mp b]
    .cases e
     exact absurd (g _ _ f) (dw _)
    .cases f
     exact absurd (g _ _ e) (dw _)
    .exact h x y c e f
   .rw[lookup_cons] at e
    split at e
    .cases e;exact gI _
    .exact fc (g _ _ e)
  .exact o4 r _ _ h g
theorem o6{x:Str}:∀(names:List (Str×NameKind)) (n:Nat) (a:List (Str×Addr)),(x,NameKind.cell)∉names->(cellsFrom n names a).lookup x=a.lookup x
 |[],_,_,_=>rfl
 |(m,k)::r,n,a,h=>by
  have b:(x,NameKind.cell)∉r:=λz=>h (cz _ z);unfold cellsFrom;split
  .rename_i hk
   rw[o6 r _ _ b,lookup_cons];split
   .rename_i c
    exact absurd (by rw[gF.mp c,<-gF.mp hk];exact cP) h
   .rfl
  .exact o6 r _ _ b
theorem oZ{x:Str}:∀(names:List (Str×NameKind)) (n:Nat) (a:List (Str×Addr)),((∃c,a.lookup x=some c)\/(x,NameKind.cell)∈names)->∃c,(cellsFrom n names a).lookup x=some c
 |[],_,_,h=>by
  rcases h with h|h
  .exact h
  .cases h
 |(m,k)::r,n,a,h=>by
  unfold cellsFrom;split
  .rename_i hk
   refine oZ r _ _ ?_;rcases h with⟨c,h⟩|h
   .left
    rw[lookup_cons];split
    .exact⟨_,rfl⟩
    .exact⟨c,h⟩
   .rcases aR.mp h with e|e
    .cases e
     exact .inl ⟨n,by rw[lookup_cons,beq_self_eq_true]⟩
    .exact .inr e
  .rename_i hk
   refine oZ r _ _ (h.imp id λe=>?_);rcases aR.mp e with e|e
   .cases e
    exact absurd rfl hk
   .exact e
theorem qx{x:Str}{c:Addr}:∀(names:List (Str×NameKind)) (h:Heap) (a:List (Str×Addr)),(cellsFrom h.objs.size names a).lookup x=some c->a.lookup x=some c\/(h.objs.size<=c/\(pushCells h names).IsCell c none)
 |[],h,a,e=>.inl e
 |(m,k)::r,h,a,e=>by
  unfold cellsFrom at e;unfold pushCells;split at e
  .rename_i hk
   rw[ai hk];have ih:=qx (x:=x) (c:=c) r (h.push {cls:=.type "cell",data:=.cell none}) ((m,h.objs.size)::a) (by rw[cg];exact e);rw[cg] at ih;rcases ih with ih|ih
   .rw[lookup_cons] at ih
    split at ih
    .cases ih
     exact .inr ⟨aC _,_,pushCells_keeps r _ _ _ (bL _ rfl),rfl⟩
    .exact .inl ih
   .exact .inr ⟨by omega,ih.2⟩
  .rename_i hk
   rw[aj hk];exact qx r h a e
theorem Gf{M:Model}{A:Around}{E:aA}{s:Shared}{scope:Scope}{globals:Addr}{closure:List (Str×Addr)}{qual:Str}{func:Option Addr}{code:Value}{env:Env}{builtins:Addr}{Q:Env->Shared->Prop}
  (b:Q (newEnv scope s.heap.objs.size globals (cellsFrom (s.heap.objs.size+1) scope.names closure) qual func code (some env) builtins) {s with heap:=pushCells (s.heap.push {cls:=.type "dict",data:=.dict #[]}) scope.names}):
  wpAny M A (newFunctionEnv scope globals closure [] qual func code (some env) builtins) Q E s:=by
 simp only[newFunctionEnv,Option.isSome_some,eH];refine aa (wpAny_alloc ?_);refine aa (wpAny_layCells _ (λname kind cells=>by cases a:kind==NameKind.cell<;>simp[a]) _ _ _ _ ?_);rw[show({s with heap:=s.heap.push {cls:=.type "dict",data:=.dict #[]}}:Shared).heap.objs.size=s.heap.objs.size+1 from cg ..];rw[List.forIn_nil];exact aa (ao (ao b))
structure c6(X:Cx)(scope:Scope)(frees:List Str):Prop where
 kind:scope.kind= .function
 yC:∀y∈scope.names,y.2= .cell->scope.names.lookup y.1=some .cell
 locs:∀y∈scope.names,y.2= .local->scope.names.lookup y.1=some .local
 sub:∀n∈bq scope.names,n∈frees
 free:∀n∈frees,scope.names.lookup n=some .free
 kinds:(frees.all λn=>X.env.kindOf n==some .cell||X.env.kindOf n==some .free)=true
theorem c6.frees{X:Cx}{scope:Scope}{fr:List Str}(S:c6 X scope fr):∀n∈bq scope.names,X.env.kindOf n=some .cell\/X.env.kindOf n=some .free:=λn hn=>by
 have h:=all_eq_true.mp S.kinds n (S.sub n hn);rcases Bool.or_eq_true _ _▸h with h|h
 .exact .inl (jN h)
 .exact .inr (jN h)
theorem mY{x:Str}:∀{names:List (Str×NameKind)},(x,NameKind.free)∈names->x∈bq names
 |(n,k)::r,h=>by
  unfold bq;rcases aR.mp h with e|e
  .injection e with a b
   subst a b;rw[ai (by rfl)];exact cP
  .split
   .exact cz _ (mY e)
   .exact mY e
theorem vX{env:Env}{x:Str}:∀{names:List (Str×NameKind)} {k:NameKind},(names.map λ(n,k)=>if (k==NameKind.free&&env.scope.kind== .function&&env.kindOf n==some .cell) then (n,NameKind.cell) else (n,k)).lookup x=some k->
  ∃k0,names.lookup x=some k0/\(k=k0\/(k0=.free/\k=.cell))
 |[],k,h=>by simp at h
 |(n,k1)::r,k,h=>by
  rw[f7] at h;by_cases b:(x==n)=true
  .by_cases hc:(k1==NameKind.free&&env.scope.kind== .function&&env.kindOf n==some .cell)=true
   .dsimp only at h
    rw[ai hc,lookup_cons,b] at h;have e:k=.cell:=by injection h with h;exact h.symm
    have c:k1=.free:=by
     have:=(fZ _ _▸(fZ _ _▸hc).1).1;exact jN this
    exact⟨k1,by rw[lookup_cons,b],.inr ⟨c,e⟩⟩
   .dsimp only at h
    rw[aj hc,lookup_cons,b] at h;injection h with h;exact⟨k1,by rw[lookup_cons,b],.inl h.symm⟩
  .have a:(x==n)=false:=by simpa using b
   have h':(List.map (λ(n,k)=>if (k==NameKind.free&&env.scope.kind== .function&&env.kindOf n==some .cell) then (n,NameKind.cell) else (n,k)) r).lookup x=some k:=by
    by_cases hc:(k1==NameKind.free&&env.scope.kind== .function&&env.kindOf n==some .cell)=true
    .dsimp only at h;rw[ai hc,lookup_cons,a] at h;exact h
    .dsimp only at h;rw[aj hc,lookup_cons,a] at h;exact h
   obtain⟨k0,c,d⟩:=vX h';exact⟨k0,by rw[lookup_cons,a];exact c,d⟩
theorem vW{env:Env}{x:Str}:∀{names:List (Str×NameKind)},names.lookup x=some .free->
  (names.map λ(n,k)=>if (k==NameKind.free&&env.scope.kind== .function&&env.kindOf n==some .cell) then (n,NameKind.cell) else (n,k)).lookup x=some .cell\/
  (names.map λ(n,k)=>if (k==NameKind.free&&env.scope.kind== .function&&env.kindOf n==some .cell) then (n,NameKind.cell) else (n,k)).lookup x=some .free
 |[],h=>by simp at h
 |(n,k1)::r,h=>by
  rw[f7]
  by_cases b:(x==n)=true
  .rw[lookup_cons,b] at h
   injection h with h
   subst h
   by_cases hc:(NameKind.free==NameKind.free&&env.scope.kind== .function&&env.kindOf n==some .cell)=true
   .left;dsimp only;rw[ai hc,lookup_cons,b]
   .right;dsimp only;rw[aj hc,lookup_cons,b]
  .have a:(x==n)=false:=by simpa using b
   rw[lookup_cons,a] at h
   have c:=vW (env:=env) h
   by_cases hc:(k1==NameKind.free&&env.scope.kind== .function&&env.kindOf n==some .cell)=true
   .dsimp only;rw[ai hc,lookup_cons,a];exact c
   .dsimp only;rw[aj hc,lookup_cons,a];exact c
structure CP where
 C:Addr
 s:Shared
 H:Hp
 pins:aF
 fp:List Addr
def bC(X:Cx)(NC:List Str)(scope:Scope)(c:CP):Cx where
 prog:=X.prog
 w:=X.w
 K:=X.K
 mg:=X.mg
 base:=X.base
 A:=X.A
 N:=NC
 s₀:=c.s
 H₀:=c.H
 env:=compEnvC scope (cellsFrom (c.C+1) scope.names (bW X.env scope.names [])) c.C X.env
 outer:=X.stack
 stack:=X.stack
 ex:=c.fp
 fn:=λx=>scope.names.lookup x==some .cell
 calm:=true
 pn:=X.pn++c.pins
 xe:=λ_ _=>False
section
variable{X:Cx}{scope:Scope}{frees:List Str}{NC:List Str}{pins:aF}{σ jP:St}{H H':Hp}{s s':Shared}{fp:List Addr}{C:Addr}
theorem c6.has(S:c6 X scope frees)(ok:X.Ok):∀n∈bq scope.names,∃c,X.env.cells.lookup n=some c:=λn hn=>ok.has n (S.frees n hn)
theorem c6.j7(S:c6 X scope frees)(ok:X.Ok){x:Str}{c:Addr}(h:(bW X.env scope.names []).lookup x=some c):x∈bq scope.names/\X.env.cells.lookup x=some c:=by
 rw[j8 scope.names [] (S.has ok)] at h;by_cases a:x∈bq scope.names
 .rw[ai a] at h;exact⟨a,h⟩
 .rw[aj a] at h;simp at h
theorem c6.cells(S:c6 X scope frees)(ok:X.Ok){x:Str}{c:Addr}{n:Nat}(h:(cellsFrom n scope.names (bW X.env scope.names [])).lookup x=some c):n<=c\/(x∈bq scope.names/\X.env.cells.lookup x=some c):=
 (o5 _ _ _ h).imp And.left (S.j7 ok)
theorem c6.iR(S:c6 X scope frees){x:Str}(h:(x,NameKind.cell)∈scope.names)(a:x∈bq scope.names):False:=by
 have h1:=S.yC _ h rfl;rw[S.free x (S.sub x a)] at h1;cases h1
theorem yR(S:c6 X scope frees)(hc:X.calm=true)(I:Inv X pins σ H s)(d:∀b∈fp,dz X pins H b/\b<s.heap.objs.size)(g:C=s.heap.objs.size):(bC X NC scope ⟨C,s,H,pins,fp⟩).Ok where
 mod:=I.ok.mod
 kind:=S.kind
 glob:=I.ok.glob
 blt:=I.ok.blt
 above:=by show s.heap.objs.size<=C;rw[g];exact aC _
 inj:=o4 _ _ _ (λx y c h1 h2=>I.ok.inj x y c (S.j7 I.ok h1).2 (S.j7 I.ok h2).2) λx c h=>by
  obtain⟨v,q⟩:=I.cell x c (S.j7 I.ok h).2
  rw[g]
  exact fc q.lt
 has:=λx p=>by
  have l:∃k,(relabel scope X.env).names.lookup x=some k/\(k= .cell\/k= .free):=by
   rcases p with h|h
   .exact⟨_,h,.inl rfl⟩
   .exact⟨_,h,.inr rfl⟩
  obtain⟨k,h,hk⟩:=l
  obtain⟨k0,r,f⟩:=vX h
  have j:=h_ r
  have m:k0= .free\/k0= .cell:=by
   rcases f with f|⟨f,_⟩
   .rcases hk with hk|hk
    .exact .inr (f▸hk)
    .exact .inl (f▸hk)
   .exact .inl f
  refine oZ _ _ _ ?_
  rcases m with rfl|rfl
  .have i:=mY j
   obtain⟨c,n⟩:=S.has I.ok x i
   exact .inl ⟨c,by rw[j8 scope.names [] (S.has I.ok),ai i];exact n⟩
  .exact .inr j
 l8:=λx c h h2=>by
  have j:(x,NameKind.cell)∈scope.names:=h_ (jN h)
  show s.heap.objs.size<=c
  rcases S.cells I.ok h2 with z|⟨z,_⟩
  .rw[g] at z
   exact Nat.le_of_succ_le z
  .exact(S.iR j z).elim
 hd:=λ_=>I.ok.hd hc
 frames:=I.ok.frames
 stk:= .inl rfl
 Ab:=λb a=>⟨λz=>by have:=(d b a).2;rw[z] at this;exact absurd (g▸this) (dw _),λx c h=>by
  rcases S.cells I.ok h with z|⟨_,z⟩
  .exact iU (bO (d b a).2 (Nat.le_of_succ_le (g▸z:s.heap.objs.size+1<=c)))
  .exact(d b a).1.2.2.2.2.1 x c z⟩
 bs:=I.bs
 iE:=cO I.ok.iE I.sz
 nc:=λb o e a=>by
  rcases (d b a).1.2.2.2.1 with z|z
  .exact I.ok.nc b o e z
  .exact absurd (bO (aP e) (cO I.ok.iE z)) (dw _)
 pN:=λb a z=>by
  rcases aR.mp (I.jC b z) with e|e
  .exact(d b a).1.2.1 e
  .exact(d b a).1.2.2.1 e
 fQ:=I.stack
 jo:=I.qJ
def stC(own:List Str)(ix:List Nat)(σ:St):St:=own.map (λ_=>none)++ix.map λi=>(σ[i]?).join
theorem E7{own frees:List Str}{ix:List Nat}{σ:St}{b:List Str}(c:ix.map (λi=>b[i]?)=frees.map some){j:Nat}{x:Str}{v:V}(h1:(own++frees)[j]?=some x)(h2:(stC own ix σ)[j]?=some (some v)):
  x∈frees/\∃i:Nat,b[i]?=some x/\σ[i]?=some (some v):=by
 have f:ix.length=frees.length:=by have:=cV List.length c;simpa using this
 unfold stC at h2;by_cases d:j<own.length
 .rw[e9 (by simpa using d),bD] at h2
  cases e:own[j]? with
  |none=>rw[e] at h2;simp at h2
  |some o=>rw[e] at h2;simp at h2
 .rw[ir (by simpa using d),bD,bA] at h2
  rw[ir (by omega)] at h1;have a:(ix.map (λi=>b[i]?))[j - own.length]?=(frees.map some)[j - own.length]? :=by rw[c]
  rw[bD,bD,h1] at a;cases e:ix[j - own.length]? with
  |none=>rw[e] at h2;simp at h2
  |some i=>
   rw[e] at h2 a;simp only[map_some,Option.some.injEq] at h2 a;refine⟨gJ h1,i,a,?_⟩;cases q:σ[i]? with
   |none=>rw[q] at h2;simp at h2
   |some o=>rw[q] at h2;simp at h2;rw[h2]
theorem E8{own frees:List Str}{ix:List Nat}{σ:St}{a:List Str}(b:ix.map (λi=>a[i]?)=frees.map some):(stC own ix σ).length=(own++frees).length:=by
 have c:ix.length=frees.length:=by have:=cV List.length b;simpa using this
 unfold stC;simp[c]
theorem yQ{own:List Str}{ix:List Nat}{a:Heap}{tk:Nat}(S:c6 X scope frees)(hc:X.calm=true)(I:Inv X pins σ H s)(G:∀b∈fp,dz X pins H b/\b<s.heap.objs.size)(t:C=s.heap.objs.size)
  (E:ix.map (λi=>X.N[i]?)=frees.map some)(w:∃m,a.Ns C m)(hk:∀b o,s.heap.get? b=some o->a.get? b=some o)
  (y:∀x c,(cellsFrom (C+1) scope.names (bW X.env scope.names [])).lookup x=some c->(bW X.env scope.names []).lookup x=some c\/(C+1<=c/\a.IsCell c none)):
  Inv (bC X (own++frees) scope ⟨C,s,H,pins,fp⟩) [] (stC own ix σ) H {s with heap:=a,toks:=tk}:=by
 obtain⟨m,J⟩:=w
 refine⟨yR S hc I G t,rfl,I.bare,Un.kept hk,⟨m,J,λj x v h1 h2 h3=> ?_⟩,λx c h=> ?_,?_,λx c h=> ?_,λp K=> ?_,I.hok.kept hk,E8 E⟩
 .obtain⟨L,i,M,O⟩:=E7 E h1 h2
  have f:=S.free x L
  have g:=mY (h_ f)
  have k:=S.frees x g
  obtain⟨m0,_,P⟩:=I.loc
  have A:j4 X.env.scope x:=by rcases k with z|z;exact .inr (.inl z);exact .inr (.inr z)
  obtain⟨u,r,l⟩:=P i x v M O A
  refine⟨u,r,?_⟩
  rcases l with⟨F,_⟩|⟨_,c,Q,R⟩
  .rcases k with z|z
   .rw[F] at z;cases z
   .rw[F] at z;cases z
  .refine .inr ⟨vW (env:=X.env) f,c,?_,?_⟩
   .show(cellsFrom _ scope.names (bW X.env scope.names [])).lookup x=some c
    rw[o6 _ _ _ λz=>S.iR z g,j8 scope.names [] (S.has I.ok),ai g]
    exact Q
   .obtain⟨o,B,hd⟩:=R
    exact⟨o,hk _ _ B,hd⟩
 .rcases y x c h with h|h
  .obtain⟨_,e⟩:=S.j7 I.ok h
   obtain⟨v,o,B,hd⟩:=I.cell x c e
   exact⟨v,o,hk _ _ B,hd⟩
  .exact⟨none,h.2⟩
 .show H C=none
  rw[t]
  exact I.hok.fresh (aC _)
 .rcases S.cells I.ok h with z|⟨_,z⟩
  .refine I.hok.fresh ?_
   have z:s.heap.objs.size+1<=c:=t▸z
   omega
  .exact I.gk x c z
 .have D:p∈X.pn++pins:=by
   have:p∈(X.pn++pins)++[]:=K
   rwa [e8] at this
  obtain⟨e,n,ne,T,d⟩:=I.pin p D
  refine⟨hk _ _ e,n,?_,λz=> ?_,d⟩
  .show p.1≠C
   rw[t]
   exact bz (aP e)
  .rcases aR.mp (I.jC p.1 z) with q|q
   .exact ne q
   .exact T q
theorem yO{NC:List Str}(S:c6 X scope frees)(I:Inv X pins σ H s)(d:∀b∈fp,dz X pins H b/\b<s.heap.objs.size)(e:C=s.heap.objs.size){b:Addr}(a:b∈fp)(hn:H' b=none):dz (bC X NC scope ⟨C,s,H,pins,fp⟩) [] H' b:=by
 refine⟨hn,?_,λz=>?_,.inl a,λx c h=>by
  rcases S.cells I.ok h with z|⟨_,z⟩
  .exact iU (bO (d b a).2 (Nat.le_of_succ_le (e▸z:s.heap.objs.size+1<=c)))
  .exact(d b a).1.2.2.2.2.1 x c z,λp f=>(d b a).1.2.2.2.2.2 p ?_⟩
 .show b≠C
  rw[e];exact bz (d b a).2
 .rcases aR.mp (I.jC b z) with q|q
  .exact(d b a).1.2.1 q
  .exact(d b a).1.2.2.1 q
 .have:p∈(X.pn++pins)++[]:=f
  rwa [e8] at this
theorem yN{NC:List Str}(I:Inv X pins σ H s)(a:∀b∈fp,dz X pins H b/\b<s.heap.objs.size)(J:Inv (bC X NC scope ⟨C,s,H,pins,fp⟩) [] jP H' s'):Inv X pins σ H' s':=
 I.yk J.os J.base J.hok J.bare λb c=>⟨(a b c).1.2.2.2.1,(a b c).1.2.1,(a b c).1.2.2.2.2.1,(a b c).1.2.2.2.2.2⟩
theorem yP{h':Heap}(I:Inv X pins σ H s)(hn:H C=none)(h1:C≠X.env.locals)(h2:X.s₀.heap.objs.size<=C)(h3:∀x c,X.env.cells.lookup x=some c->c≠C)(a:∀p∈X.pn++pins,p.1≠C)(hs:SameBut C s.heap h'):
 Inv X pins σ H {s with heap:=h'}:=I.turned (t':=s.toks) (λb o d e=>(hs.2 b d).trans e) hn h1 (.inr h2) h3 a
end
inductive dB:St->St->Prop
 |nil:dB [] []
 |own {o:Option V} {a b:St}:dB a b->dB (none::a) (o::b)
 |keep {o:Option V} {a b:St}:dB a b->dB (o::a) (o::b)
theorem dB.len:∀{a b:St},dB a b->b.length=a.length
 |_,_,.nil=>rfl
 |_,_,.own h=>cV (·+1) h.len
 |_,_,.keep h=>cV (·+1) h.len
theorem dB.get:∀{a b:St},dB a b->∀(i:Nat) v,a[i]?=some (some v)->b[i]?=some (some v)
 |_,_,.nil,i,v,e=>by simp at e
 |_,_,.own h,0,v,e=>by simp at e
 |_,_,.own h,i+1,v,e=>by
  rw[qX] at e ⊢;exact h.get i v e
 |_,_,.keep h,0,v,e=>by simpa using e
 |_,_,.keep h,i+1,v,e=>by
  rw[qX] at e ⊢;exact h.get i v e
theorem dB.refl:∀a:St,dB a a
 |[]=>.nil
 |_::r=>.keep (dB.refl r)
inductive gM(X:Cx):List Expr->TT->Prop
 |nil:gM X [] (λ_ H Q=>Q true H)
 |one {c:Expr} {t:TT}:PT X c t->gM X [c] t
theorem gM.run{X:Cx}{ifs:List Expr}{t:TT}(h:gM X ifs t){pins:aF}{s:Shared}{σ:St}{H:Hp}{Q:Bool->Hp->Prop}(I:Inv X pins σ H s)(a:t σ H Q):
  wpAny (model X.prog X.w) X.A (forIn ifs true λc r=>if r=true then do let ok <-isTrue c X.env (eval c X.env);pure (ForInStep.yield ok) else pure (ForInStep.yield r)) (TP X pins σ Q) X.xe s:=by
 cases h with
 |nil=>exact wpAny_tests_nil ⟨H,I,a⟩
 |one h=>exact wpAny_tests_one (h pins s σ H Q I a)
def yj(jP:St)(acc:Addr)(g:TG)(tt:TT)(te:TE)(x:V)(ys:List V)(H:Hp)(N:List V->Hp->Prop):Prop:=
 g x jP H λσ2 H2=>dB jP σ2/\tt σ2 H2 λb H3=>if b=true then te σ2 H3 λy H4=>H4 acc=some (.lst ys)/\ys.length<sizeLine/\N (ys++[y]) (upd H4 acc (.lst (ys++[y]))) else N ys H3
def oY(J:It)(jP:St)(acc:Addr)(g:TG)(tt:TT)(te:TE)(H:Hp)(Q:VK):Prop:=
 ∃W:Nat->Nat->List V->Hp->Prop,(∃m,W 0 m [] H)/\∀i m ys H,W i m ys H->H acc=some (.lst ys)/\
  ((J.stop i H/\Q (.ref acc) H)\/(J.go i H/\∃N:List V->Hp->Prop,(∀ys' H',N ys' H'->∃m',m'<m/\W (i+1) m' ys' H')/\∀x H',J.nY i H x H'->yj jP acc g tt te x ys H' N))
def w_(own:List Str)(ix:List Nat)(wi:TI)(g:CP->TG)(tt:CP->TT)(te:CP->TE):TE:=λσ H Q=>
 wi σ H λJ H1=>∀(c:CP) (acc:Addr),H1 acc=none->oY J (stC own ix σ) acc (g c) (tt c) (te c) (upd H1 acc (.lst [])) Q
section
variable{X:Cx}{scope:Scope}{own frees:List Str}{ix:List Nat}{tg elt iter:Expr}{ifs:List Expr}{pos:Pos}{wi:TI}{g:CP->TG}{tt:CP->TT}{te:CP->TE}
theorem yG{J:It}{it a:Addr}{fp:List Addr}{F:Nat->Heap->Prop}{c:CP}{σ:St}{H:Hp}{s:Shared}{Q:VK}{R:Result->Shared->Prop}
  (hfp:c.fp=fp)(T:Turn X.prog X.w X.K tg J fp it F)(hg:PG (bC X (own++frees) scope c) tg (g c))(ht:gM (bC X (own++frees) scope c) ifs (tt c))(he:PE (bC X (own++frees) scope c) elt (te c))
  (k:∀b∈fp,∀H':Hp,H' b=none->dz (bC X (own++frees) scope c) [] H' b)
  (I:Inv (bC X (own++frees) scope c) [] (stC own ix σ) H s)(st:F 0 s.heap)(fr:∀b∈fp,H b=none)(h:oY J (stC own ix σ) a (g c) (tt c) (te c) H Q)
  (hR:∀s' H',Inv (bC X (own++frees) scope c) [] (stC own ix σ) H' s'->Q (.ref a) H'->R (.ok .next) s'):
  codeAny (model X.prog X.w) X.A (.compLoop (.ListComp elt [⟨tg,iter,ifs,0⟩] scope pos) 0 (.ref it) (.ref a) (bC X (own++frees) scope c).env) R s:=by
 obtain⟨W,⟨m0,w0⟩,turn⟩:=h
 refine codeAny_loop rfl (λn s'=>∃i ys H',Inv (bC X (own++frees) scope c) [] (stC own ix σ) H' s'/\F i s'.heap/\(∀b∈fp,H' b=none)/\W i n ys H') (λn O hI=> ?_) m0 ⟨0,[],H,I,st,fr,w0⟩
 obtain⟨i,ys,H1,I1,v,B,w1⟩:=hI
 show wpAny _ X.A ((compTurn (.ListComp elt [⟨tg,iter,ifs,0⟩] scope pos) 0 (.ref it) (.ref a) (bC X (own++frees) scope c).env).onRaise (λx=>do noteFrame x (bC X (own++frees) scope c).env;theTreesLotGoes x)) _ _ O
 have l:∀{α:Type} {t:Sem α} {P:α->Shared->Prop} {s:Shared},wpAny (model X.prog X.w) X.A t P (λ_ _=>False) s->wpAny (model X.prog X.w) X.A t P (notedBy (model X.prog X.w) X.A (bC X (own++frees) scope c).env λe s'=>R (.error e) s') s:=
  λh=>jK h (λ_ _ q=>q) λ_ _ z=>z.elim
 refine wpAny_noted ?_
 rw[compTurn_list]
 obtain⟨ha,hw⟩:=turn i n ys H1 w1
 rcases hw with⟨stop,q⟩|⟨go,N,hN,step⟩
 .refine aa (wpAny_standAt (aa (l (aD (T.done (bC X (own++frees) scope c) rfl rfl rfl rfl i [] O _ H1 (λ_ _=>False) I1 (λb j=>k b j H1 (B b j)) v stop) λr s2 ⟨S,I2⟩=> ?_))))
  subst S
  exact ao (hR s2 H1 I2 q)
 .refine aa (wpAny_standAt (aa (l (aD (T.item (bC X (own++frees) scope c) rfl rfl rfl rfl i [] O _ H1 (λ_ _=>False) I1 (λb j=>k b j H1 (B b j)) v go) λr s2 ⟨u,S,h2⟩=> ?_))))
  subst S
  refine aa (l (aD h2 λ_ s3 ⟨x,U,I3,r3,y3,m,V⟩=> ?_))
  have Y:=I3.pinned (λb j=>k b j U (V b j)) (T.obj _ _ m)
  refine aa (l (aD (hg _ s3 _ U x u _ Y r3 (step x U y3)) λ_ s4 ⟨Gi,H4,I4,G,q4⟩=> ?_))
  refine aa (l (aD (ht.run I4 q4) λok s5 ⟨H5,Z,L⟩=> ?_))
  have f:∀{C:Shared} {D:St} {p:Hp},Inv (bC X (own++frees) scope c) ([]++kY fp s3.heap) D p C->F (i+1) C.heap/\∀b∈fp,p b=none:=λ {C D p} E=>
   ⟨T.keep _ _ _ m λb j o e=>(E.pin (b,o) (d8 _ (d8 _ (mZ j e)))).1,λb j=>by
    obtain⟨o,e,d⟩:=T.obj _ _ m b j
    exact(E.pin (b,o) (d8 _ (d8 _ (mZ j e)))).2.1⟩
  cases ok with
  |false=>
   rw[aj (by decide)] at L
   obtain⟨m',hm,w5⟩:=hN _ _ L
   obtain⟨k1,k2⟩:=f Z
   exact ao ⟨rfl,m',hm,i+1,ys,H5,(Z.lu).weak G.len.symm G.get,k1,k2,w5⟩
  |true=>
   rw[ai rfl] at L
   refine aa (aa (l (aD (he _ s5 _ H5 _ Z L) λy C ⟨M,p,E,r6,a6,l6,q6⟩=> ?_)))
   obtain⟨m',hm,w6⟩:=hN _ _ q6
   obtain⟨k1,k2⟩:=f E
   refine aa (l (aD (ql (X:=bC X (own++frees) scope c) _ C _ p (.ref a) [M] (.ref a) [y] (λ_ H7=>H7=upd p a (.lst (ys++[M]))) E rfl (.cons r6 .nil) ⟨a,ys,M,rfl,rfl,a6,l6,rfl⟩) λ_ s7 ⟨_,H7,I7,_,e7⟩=> ?_))
   subst e7
   obtain⟨k1,k2⟩:=f I7
   exact ao (ao ⟨rfl,m',hm,i+1,ys++[M],_,(I7.lu).weak G.len.symm G.get,k1,k2,w6⟩)
structure oB(X:Cx)(pins:aF)(C:Addr)(H:Hp):Prop where
 no:H C=none
 loc:C≠X.env.locals
 old:X.s₀.heap.objs.size<=C
 eS:∀x c,X.env.cells.lookup x=some c->c≠C
 pin:∀p∈X.pn++pins,p.1≠C
theorem oB.inv{pins:aF}{σ:St}{H:Hp}{s:Shared}{C:Addr}{h':Heap}(G:oB X pins C H)(I:Inv X pins σ H s)(hs:SameBut C s.heap h'):Inv X pins σ H {s with heap:=h'}:=
 yP I G.no G.loc G.old G.eS G.pin hs
theorem yF{pins:aF}{σ:St}{H:Hp}{s:Shared}{Q:VK}{F:Value->Addr->Result->Shared->Prop}{E:aA}{J:It}{it:Addr}{fp:List Addr}{G:Nat->Heap->Prop}
  (S:c6 X scope frees)(hc:X.calm=true)(Y:ix.map (λi=>X.N[i]?)=frees.map some)
  (Z:∀c,PG (bC X (own++frees) scope c) tg (g c))(ht:∀c,gM (bC X (own++frees) scope c) ifs (tt c))(he:∀c,PE (bC X (own++frees) scope c) elt (te c))
  (I:Inv X pins σ H s)(T:Turn X.prog X.w X.K tg J fp it G)(st:G 0 s.heap)(U:∀b∈fp,dz X pins H b)
  (h:∀(c:CP) (f:Addr),H f=none->oY J (stC own ix σ) f (g c) (tt c) (te c) (upd H f (.lst [])) Q)
  (L:∀(f C:Addr) s' H' m,Inv X pins σ H' s'->s'.heap.Ns C m->oB X pins C H'->Q (.ref f) H'->F (.ref f) C (.ok .next) s'):
  wpAny (model X.prog X.w) X.A (newList []) (λf y=>wpAny (model X.prog X.w) X.A (newFunctionEnv scope X.env.globals (bW X.env scope.names []) [] X.env.qual none .none (some X.env)) (λn B=>
   codeAny (model X.prog X.w) X.A (.compStart (.ListComp elt [⟨tg,iter,ifs,0⟩] scope pos) 0 (.ref it) f {n with scope:=relabel scope X.env}) (F f n.locals) B) E y) E s:=by
 refine dh (Gf ?_)
 dsimp only
 have M:H s.heap.objs.size=none:=I.hok.fresh (aC _)
 have r:Inv X pins σ (upd H s.heap.objs.size (.lst [])) {s with heap:=s.heap.push {cls:= .type "list",data:= .seq ([]:List Value).toArray}}:=I.uP (its:=[]) (t':=s.toks) .nil (ck _)
 generalize t:({s with heap:=s.heap.push {cls:= .type "list",data:= .seq ([]:List Value).toArray}}:Shared)=d at r
 have V:d.heap=s.heap.push {cls:= .type "list",data:= .seq ([]:List Value).toArray}:=by rw[<-t]
 have W:∀b∈fp,b<s.heap.objs.size:=λb k=>by
  obtain⟨o,e,_⟩:=T.obj _ _ st b k
  exact aP e
 have sz:d.heap.objs.size=s.heap.objs.size+1:=by rw[V,cg]
 have l:∀b∈fp,dz X pins (upd H s.heap.objs.size (.lst [])) b/\b<d.heap.objs.size:=λb k=>
  ⟨⟨by rw[bh (bz (W b k))];exact(U b k).1,(U b k).2⟩,by rw[sz];exact fc (W b k)⟩
 obtain⟨a,D⟩:∃a,a=pushCells (d.heap.push {cls:= .type "dict",data:= .dict #[]}) scope.names:=⟨_,rfl⟩
 have kp:∀b o,d.heap.get? b=some o->a.get? b=some o:=λb o e=>by
  rw[D]
  exact pushCells_keeps _ _ b o (a_ _ e)
 have O:∃m,a.Ns d.heap.objs.size m:=by
  rw[D]
  exact⟨_,(Heap.Ns.new d.heap (.type "dict")).keeps (pushCells_keeps _ _)⟩
 have cl:∀x c,(cellsFrom (d.heap.objs.size+1) scope.names (bW X.env scope.names [])).lookup x=some c->(bW X.env scope.names []).lookup x=some c\/(d.heap.objs.size+1<=c/\a.IsCell c none):=λx c e=>by
  have:=qx (x:=x) (c:=c) scope.names (d.heap.push {cls:= .type "dict",data:= .dict #[]}) (bW X.env scope.names []) (by rw[cg];exact e)
  rw[cg,<-D] at this
  exact this
 have J0:Inv (bC X (own++frees) scope ⟨d.heap.objs.size,d,upd H s.heap.objs.size (.lst []),pins,fp⟩) [] (stC own ix σ) (upd H s.heap.objs.size (.lst [])) {d with heap:=a}:=
  yQ (tk:=d.toks) S hc r l rfl Y O kp cl
 have P:∀b∈fp,∀H':Hp,H' b=none->dz (bC X (own++frees) scope ⟨d.heap.objs.size,d,upd H s.heap.objs.size (.lst []),pins,fp⟩) [] H' b:=λb k H' hn=>yO S r l rfl k hn
 have u:G 0 a:=T.keep _ _ _ st λb k o e=>kp b o (by rw[V];exact a_ _ e)
 have loop:codeAny (model X.prog X.w) X.A (.compLoop (.ListComp elt [⟨tg,iter,ifs,0⟩] scope pos) 0 (.ref it) (.ref s.heap.objs.size) (bC X (own++frees) scope ⟨d.heap.objs.size,d,upd H s.heap.objs.size (.lst []),pins,fp⟩).env)
   (F (.ref s.heap.objs.size) d.heap.objs.size) {d with heap:=a}:=by
  refine yG rfl T (Z _) (ht _) (he _) P J0 u (λb k=>(l b k).1.1) (h _ _ M) λs' H' R q=> ?_
  obtain⟨m,hm,_⟩:=R.loc
  refine L _ _ s' H' m (yN r l R) hm ⟨R.free,iU r.lt,r.sz,λx c e z=> ?_,λp hp z=> ?_⟩ q
  .obtain⟨v,q⟩:=r.cell x c e
   exact absurd (bO q.lt (by rw[z];exact aC _)) (dw _)
  .exact absurd (bO (aP (r.pin p hp).1) (by rw[z];exact aC _)) (dw _)
 have j:=loop
 rw[D,<-t] at j
 exact codeAny_compStart_list j (T.self _ 0 _ _ _ (by rw[D,<-t] at u;exact u) j)
theorem Dq(hi:PI X tg iter wi)
  (f:∀c,PG (bC X (own++frees) scope c) tg (g c))(j:∀c,gM (bC X (own++frees) scope c) ifs (tt c))(k:∀c,PE (bC X (own++frees) scope c) elt (te c))(S:c6 X scope frees:=by exact⟨rfl,by decide+kernel,by decide+kernel,by decide+kernel,by decide+kernel,rfl⟩)(hc:X.calm=true:=by rfl)(l:ix.map (λi=>X.N[i]?)=frees.map some:=by rfl)(hs:∀x,foldedSetIterable iter X.env x=pure x:=by intro _;rfl):
  PE X (.ListComp elt [⟨tg,iter,ifs,0⟩] scope pos) (w_ own ix wi g tt te):=by
 intro pins s σ H Q I h;rw[eval_ListComp];refine wpAny_comprehension_free (use:=none) rfl hs (yD (S.has I.ok)) S.kind S.locs (aD (hi pins s σ H _ I h) λv u h1=>aD h1 λn w h2=>?_);obtain⟨it,fp,y,J,H2,e,o,T,a,f2,p⟩:=h2;subst e;refine yF S hc l f j k o T a f2 p λb C s' H' m r t G q=>?_;exact⟨m,t,λh' d=>⟨.ref b,H',G.inv r d,rfl,q⟩⟩
end
section
variable{X:Cx}
theorem su:∀{bs:List Bool} {its:List Value},Vals (bs.map V.bl) its->LSm.BoolsAre its bs
 |[],_,.nil=>.nil
 |b::r,_,.cons q t=>by
  cases q;exact .cons b (su t)
theorem yl(hc:X.calm=true):d_ X (.builtin "all") (λxs H Q=>∃(p:Addr) (bs:List Bool),xs=[.ref p]/\aX X.K H p (bs.map V.bl)/\Q (.bl (bs.all id)) H):=by
 intro pins s σ H xs k Q I r h;obtain⟨p,bs,rfl,hq,q⟩:=h;obtain⟨u,rfl,ru⟩:=vals1 r;cases ru;obtain⟨vs,g,pl,l⟩:=I.list hq;have d:=su g;have a:=pl.isList;have c:p<s.heap.objs.size:=by obtain⟨_,e,_⟩:=a;exact aP e
 refine call_all_walk (wpAny_pyIter_list a ?_);refine⟨s.heap.objs.size,[s.heap.objs.size,p],[s.heap.objs.size],vs.toArray.size,_,_,λi=>(bs[i]?).getD true,rfl,Walks.list (A:=X.A.in1) (I.ok.hd hc) _ p (bz c) vs.toArray,
  ⟨⟨_,bL _ rfl,rfl,rfl⟩,a.push _⟩,λi v s' m n j f=>?_,λh' tk hk=>?_⟩
 .obtain⟨b,e,rfl⟩:=d.get i v (by simpa using j)
  simp only[e,getD_some] at f;exact g_ f
 .have e:((range vs.toArray.size).all λi=>(bs[i]?).getD true)=bs.all id:=by
   rw[bT,d.length];exact LSm.range_all bs
  rw[e];exact⟨.bl _,H,I.kept (h':=h') (t':=tk) (LSm.kept_iter hk),rfl,q⟩
def oG(y:Str):It:=⟨λi _=>i<y.cps.size,λi H x H'=>H'=H/\∃c,y.cps[i]?=some c/\x=.str ⟨#[c]⟩,λi _=>i=y.cps.size⟩
theorem F2{P:Program}{w:World}{K:Frag}{nm:Str}{px:Pos}{ty:String}{y:Str}{t:Tok}(it:Addr)
  (W:∀A:Around,A.handled=none->Walks P w A it [it] [it] y.cps.size (SignAt y) (λi h=>h.IsStrIter it ty y t i))
  (C:∀(A:Around) (i:Nat) (s:Shared) (Q:aA) (E:aA),s.heap.IsStrIter it ty y t i->Q (.ref it) s->wpAny (model P w) A (pyIter (.ref it)) Q E s):Turn P w K (.Name nm px) (oG y) [it] it (λi h=>h.IsStrIter it ty y t i) where
 mem:=by simp
 obj:=λi h st b a=>by
  have e:b=it:=by simpa using a
  subst e
  obtain⟨o,e,c,d⟩:=st
  exact⟨o,e,λv z=>by rw[d] at z;cases z⟩
 keep:=λi h h' st k=>let ⟨o,D,r⟩:=st;⟨o,k it (by simp) o D,r⟩
 item:=by
  intro X f j l hc i pins s σ H E I g st m
  subst f j l
  obtain⟨f0,f1,f2,n,f4,p⟩:=g it (by simp)
  refine(W X.A (I.ok.hd hc)).item i s _ _ m st λv h' tk f q hk=> ?_
  obtain⟨c,u,x,rfl⟩:=f
  have F:Inv X pins σ H {s with heap:=h',toks:=tk}:=I.turned (λb o a e=>hk b o (by simpa using a) e) f0 f1 n f4 p
  exact⟨_,rfl,ao ⟨.str ⟨#[c]⟩,H,F,⟨u,rfl⟩,⟨rfl,c,x,rfl⟩,q,λb a=>(g b a).1⟩⟩
 done:=by
  intro X f j l hc i pins s σ H E I g st m
  subst f j l
  obtain⟨f0,f1,f2,n,f4,p⟩:=g it (by simp)
  have B:i=y.cps.size:=m
  subst B
  exact(W X.A (I.ok.hd hc)).done s _ _ st λh' tk hk=>⟨rfl,I.turned (λb o a e=>hk b o (by simpa using a) e) f0 f1 n f4 p⟩
 self:=λA i s Q E st h=>C A i s Q E st h
def Bf(tl:TE):TI:=λσ H R=>tl σ H λx H1=>∃y,x=.str y/\R (oG y) H1
theorem DL{l:Expr}{tl:TE}{nm:Str}{px:Pos}(j:PE X l tl):PI X (.Name nm px) l (Bf tl):=by
 intro pins s σ H R I h;refine aD (j pins s σ H _ I h) λv a ⟨x,H1,c,k,m⟩=>?_;obtain⟨y,e,q⟩:=m;subst e;obtain⟨t,rfl⟩:=k;have fin:∀(ty:String) (o:Obj) (W:∀A:Around,A.handled=none->Walks X.prog X.w A a.heap.objs.size [a.heap.objs.size] [a.heap.objs.size] y.cps.size (SignAt y) (λi h=>h.IsStrIter a.heap.objs.size ty y t i))
   (f:∀(A:Around) (i:Nat) (s:Shared) (Q:aA) (E:aA),s.heap.IsStrIter a.heap.objs.size ty y t i->Q (.ref a.heap.objs.size) s->wpAny (model X.prog X.w) A (pyIter (.ref a.heap.objs.size)) Q E s),
   (a.heap.push o).IsStrIter a.heap.objs.size ty y t 0->rD X pins σ (.Name nm px) R (.ref a.heap.objs.size) {a with heap:=a.heap.push o}:=λty o W f st=>by
  refine⟨a.heap.objs.size,[a.heap.objs.size],_,_,H1,rfl,c.kept (t':=a.toks) λb o e=>a_ _ e,F2 _ W f,st,λb n=>?_,q⟩;have e:b=a.heap.objs.size:=by simpa using n
  subst e;exact c.pQ (aC _) (c.hok.fresh (aC _))
 cases g:y.cps.all (·<128)
 .exact wpAny_pyIter_wide g (fin _ _ (λA' d=>Walks.strWide d _ y t) (λ_ _ _ _ _ st h=>wpAny_pyIter_striter_wide st h) ⟨_,bL _ rfl,rfl,rfl⟩)
 .exact wpAny_pyIter_ascii g (fin _ _ (λA' d=>Walks.strAscii d _ y t) (λ_ _ _ _ _ st h=>wpAny_pyIter_striter_ascii st h) ⟨_,bL _ rfl,rfl,rfl⟩)
end
mutual
inductive Dp(K:Frag)(H:Hp):V->PyData->Prop
 |aJ:Dp K H .aJ .none
 |bl (b:Bool):Dp K H (.bl b) (.bool b)
 |int (i:Int):Dp K H (.int i) (.int i)
 |str (x:Str):Dp K H (.str x) (.str x)
 |lst {a:Addr} {xs:List V} {ds:List PyData}:aX K H a xs->c8 K H xs ds->Dp K H (.ref a) (.list ds)
 |tup {a:Addr} {xs:List V} {ds:List PyData}:bg K H a xs->c8 K H xs ds->Dp K H (.ref a) (.tuple ds)
inductive c8(K:Frag)(H:Hp):List V->List PyData->Prop
 |nil:c8 K H [] []
 |cons {v:V} {vs:List V} {d:PyData} {ds:List PyData}:Dp K H v d->c8 K H vs ds->c8 K H (v::vs) (d::ds)
end
section
variable{X:Cx}{pins:aF}{σ:St}{H H':Hp}{s:Shared}{K:Frag}
mutual
theorem Dp.reads(I:Inv X pins σ H s):∀(d:PyData) (v:V) (u:Value),Dp X.K H v d->RelV v u->∃as,Reads s.heap u d as
 |.none,_,_,h,r=>by cases h;cases r;exact⟨_,.none⟩
 |.bool b,_,_,h,r=>by cases h;cases r;exact⟨_,.bool b⟩
 |.int i,_,_,h,r=>by cases h;obtain⟨t,rfl⟩:=r;exact⟨_,.int i t⟩
 |.str x,_,_,h,r=>by cases h;obtain⟨t,rfl⟩:=r;exact⟨_,.str x t⟩
 |.list ds,_,_,h,r=>by
  cases h with
  |lst hq hs=>
   cases r;obtain⟨its,a,pl,c⟩:=I.list hq;obtain⟨as,ra⟩:=c8.reads I ds _ _ hs a;obtain⟨o,e,hc,n,hd⟩:=pl.isList;exact⟨_,.list e hc hd (by simpa using ra)⟩
 |.tuple ds,_,_,h,r=>by
  cases h with
  |tup hq hs=>
   cases r;obtain⟨its,a,pl,c⟩:=I.tuple hq;obtain⟨as,ra⟩:=c8.reads I ds _ _ hs a;obtain⟨o,e,hc,n,hd⟩:=pl;exact⟨_,.tuple e hc hd (by simpa using ra)⟩
 |.dict _,_,_,h,_=>nomatch h
theorem c8.reads(I:Inv X pins σ H s):∀(ds:List PyData) (vs:List V) (a:List Value),c8 X.K H vs ds->Vals vs a->∃as,ReadsAll s.heap a ds as
 |[],_,_,h,r=>by cases h;cases r;exact⟨_,.nil⟩
 |d::ds,_,_,h,r=>by
  cases h with
  |cons h1 h2=>
   cases r with
   |cons b c=>
    obtain⟨as,a1⟩:=Dp.reads I d _ _ h1 b;obtain⟨bs,a2⟩:=c8.reads I ds _ _ h2 c;exact⟨_,.cons a1 a2⟩
end
def qB(K:Frag):R2:=λx y H Q=>∃d e,Dp K H x d/\Dp K H y e/\d.canLay0=true/\e.canLay0=true/\min d.depth e.depth<=64/\Q (.bl (PyData.eqv d e)) H
def qD(K:Frag):R2:=λx y H Q=>∃d e,Dp K H x d/\Dp K H y e/\d.canLay0=true/\e.canLay0=true/\min d.depth e.depth<=64/\Q (.bl (!PyData.eqv d e)) H
theorem C4(i:X.A.units+64<cLine):aO X (compareOp .Eq) (qB X.K):=by
 intro pins s σ H x y v u Q I a b h;obtain⟨d,e,h1,h2,c,f,hd,q⟩:=h;obtain⟨as,ra⟩:=Dp.reads I d x v h1 a;obtain⟨bs,g⟩:=Dp.reads I e y u h2 b;exact SeqAt.compareEq_reads ra g c f (by omega) ⟨.bl _,H,I,rfl,q⟩
theorem Dd(i:X.A.units+64<cLine):aO X (compareOp .NotEq) (qD X.K):=by
 intro pins s σ H x y v u Q I a b h;obtain⟨d,e,h1,h2,c,f,hd,q⟩:=h;obtain⟨as,ra⟩:=Dp.reads I d x v h1 a;obtain⟨bs,g⟩:=Dp.reads I e y u h2 b;exact SeqAt.compareNe_reads ra g c f (by omega) ⟨.bl _,H,I,rfl,q⟩
theorem c8.ints:∀(xs:List Int),c8 K H (xs.map V.int) (xs.map PyData.int)
 |[]=>.nil
 |x::r=>.cons (.int x) (c8.ints r)
end
mutual
def cJ:PyData->Bool
 |.none|.int _|.str _=>true
 |.bool _=>false
 |.list ds=>fC ds
 |.tuple ds=>fC ds
 |.dict _=>false
def fC:List PyData->Bool
 |[]=>true
 |d::r=>cJ d&&fC r
end
mutual
theorem tG:∀(d e:PyData),cJ d=true->cJ e=true->(PyData.eqv d e=true↔d=e)
 |.none,e,_,h=>by cases e<;>simp[PyData.eqv,cJ] at h ⊢
 |.bool b,e,h,_=>by simp[cJ] at h
 |.int i,e,_,h=>by cases e<;>simp[PyData.eqv,cJ] at h ⊢
 |.str x,e,_,h=>by cases e<;>simp[PyData.eqv,cJ] at h ⊢
 |.list ds,e,h1,h2=>by
  cases e with
  |list es=>
   have:=pM ds es (by simpa[cJ] using h1) (by simpa[cJ] using h2);simpa[PyData.eqv] using this
  |_=>simp[PyData.eqv,cJ] at h2 ⊢
 |.tuple ds,e,h1,h2=>by
  cases e with
  |tuple es=>
   have:=pM ds es (by simpa[cJ] using h1) (by simpa[cJ] using h2);simpa[PyData.eqv] using this
  |_=>simp[PyData.eqv,cJ] at h2 ⊢
 |.dict _,_,h,_=>by simp[cJ] at h
theorem pM:∀(ds es:List PyData),fC ds=true->fC es=true->(eqvAll ds es=true↔ds=es)
 |[],[],_,_=>by simp[eqvAll]
 |[],_::_,_,_=>by simp[eqvAll]
 |_::_,[],_,_=>by simp[eqvAll]
 |d::ds,e::es,h1,h2=>by
  have c:cJ d=true/\fC ds=true:=by simpa[fC] using h1
  have f:cJ e=true/\fC es=true:=by simpa[fC] using h2
  have a:=tG d e c.1 f.1;have b:=pM ds es c.2 f.2;simp only[eqvAll,fZ,List.cons.injEq,a,b]
end
section
variable{P:Program}{w:World}{K:Frag}{mg:aq}{base:Heap}
def TopD(K:Frag)(mg:aq)(x:Str)(st:Stmt)(ps:List Str):Prop:=∃f fd,f_ K x x st f fd/\Binds K fd ps []/\mg x=some (.ref f)
end
section
variable{X:Cx}{k:Nat}{x:Str}{ps:List Str}{sp:Sp}{e:Expr}{es:List Expr}{t:TA}{p pos:Pos}
theorem C6:aO X (compareOp .LtE) (λx y H Q=>∃i j,x=.str i/\y=.str j/\Q (.bl (!decide (j.cps.toList<i.cps.toList))) H):=by
 intro pins s σ H x y v u Q I a b h;obtain⟨i,j,rfl,rfl,q⟩:=h;obtain⟨t,rfl⟩:=a;obtain⟨t',rfl⟩:=b;exact PySem.P.le_str (br I q rfl)
end
inductive j3(K:Frag)(H:Hp):V->Value->Prop where
 |of {x:V} {t:Value} (h:ee K H x t):j3 K H x t
 |tup {a:Addr} {xs:List V} (h:bg K H a xs):j3 K H (.ref a) (.type "tuple")
 |lst {a:Addr} {xs:List V} (h:aX K H a xs):j3 K H (.ref a) (.type "list")
theorem ym{X:Cx}:d_ X (.builtin "isinstance") (λxs H Q=>∃x c t b,xs=[x,.ty c]/\j3 X.K H x t/\kitOne X.K t (.type c)=some b/\Q (.bl b) H):=by
 intro pins s σ H xs f Q I r h;obtain⟨x,c,t,b,rfl,ty,e,q⟩:=h;obtain⟨u,g,rfl,ru,a⟩:=vals2 r;cases a;cases ty with
 |of ty=>exact Bp I ru ty e λtk=>⟨.bl b,H,I.tok tk,rfl,q⟩
 |tup hq=>
  cases ru;obtain⟨its,d,⟨o,h1,h2,_⟩,_⟩:=I.tuple hq;exact eK kitx_tuple I.cH ⟨o,h1,h2⟩ e (λz=>nomatch z) λtk=>⟨.bl b,H,I.tok tk,rfl,q⟩
 |lst hq=>
  cases ru;obtain⟨its,d,pl,_⟩:=I.list hq;obtain⟨o,h1,h2,_⟩:=pl.isList;exact eK kitx_list I.cH ⟨o,h1,h2⟩ e (λz=>nomatch z) λtk=>⟨.bl b,H,I.tok tk,rfl,q⟩
end L2
end
namespace MA
inductive bI(N:Type) where
 |wt (n:N)
 |ah (l r:Int) (a b:bI N)
namespace bI
variable{N:Type}
def arms:bI N->Prop
 |wt _=>True
 |ah l r a b=>1<=l/\l<=9/\1<=r/\r<=9/\a.arms/\b.arms
def deep:bI N->Nat
 |wt _=>0
 |ah _ _ a b=>max a.deep b.deep+1
def names:bI N->List N
 |wt n=>[n]
 |ah _ _ a b=>a.names++b.names
end bI
end MA
section
open PySem PySem.Spec PyProof.Rows
namespace L2
structure rz(P:Program)(w:World)(outer:List Env)(H H':Hp)(s s':Shared)(a:Addr)(C:Value):Prop where
 os:s'.os=s.os
 bare:AllBare s'.gens
 slot:∀b o,s.heap.get? b=some o->b∈frs outer->∃sl,s'.heap.get? b=some {o with slots:=sl}
 free:∀b o,s.heap.get? b=some o->H b=none->H' b=none
 tups:∀b xs,H b=some (.tup xs)->H' b=some (.tup xs)
 dR:∀b o u,H b=some (.bR o u)->H' b=some (.bR o u)
 eB:∀b ps,H b=some (.fD ps)->∃more,H' b=some (.fD (ps++more))
 fl:∃(B:Heap) (a0:Value),(∀b o,s.heap.get? b=some o->H b=none->b∉frs outer->B.get? b=some o)/\(∀b o,s.heap.get? b=some o->b∉frs outer->∃o',B.get? b=some o')/\bB P w H' B/\Heap.FlyingW B outer a C a0 s'.heap
def aQ(P:Program)(w:World):eL:=λouter H s E e s'=>∃(a:Addr) (C:Value) (H':Hp),e=.ref a/\rz P w outer H H' s s' a C/\E C none H'
section
variable{X:Cx}{pins:aF}{σ:St}{H H':Hp}{s s':Shared}{a:Addr}{C:Value}
theorem tN(I:Inv X pins σ H s)(hex:X.ex=[])(os:s'.os=s.os)(bare:AllBare s'.gens)(slot:∀b o,s.heap.get? b=some o->b∈frs X.outer->∃g,s'.heap.get? b=some {o with slots:=g})
  (free:∀b o,s.heap.get? b=some o->H b=none->H' b=none)(tups:∀b xs,H b=some (.tup xs)->H' b=some (.tup xs))(dR:∀b o u,H b=some (.bR o u)->H' b=some (.bR o u))
  (eB:∀b ps,H b=some (.fD ps)->∃more,H' b=some (.fD (ps++more)))
  (fl:∃(B:Heap) (a0:Value),(∀b o,s.heap.get? b=some o->H b=none->b∉frs X.stack->B.get? b=some o)/\(∀b o,s.heap.get? b=some o->b∉frs X.stack->∃o',B.get? b=some o')/\bB X.prog X.w H' B/\Heap.FlyingW B X.outer a C a0 s'.heap):
  rz X.prog X.w X.outer X.H₀ H' X.s₀ s' a C:=by
 have nx:∀b:Addr,b∉X.ex:=λb=>by rw[hex];simp
 have d:∀b o,X.s₀.heap.get? b=some o->b∉frs X.outer->b∉frs X.stack:=λb o q c z=>by
  rcases aR.mp (I.jC b z) with e|e
  .exact absurd (bO (aP q) I.ok.above) (by rw[e];exact dw _)
  .exact c e
 refine⟨os.trans I.os,bare,λb o q c=> ?_,λb o q n=> ?_,λb xs q=>tups b xs (I.base.tups b xs q),λb o u q=>dR b o u (I.base.dR b o u q),λb ps q=> ?_,?_⟩
 .obtain⟨g,e⟩:=I.base.slot b o q (I.ok.jo b c) c (nx b)
  obtain⟨i,j⟩:=slot b _ e c
  exact⟨i,j⟩
 .obtain⟨g,e⟩:=I.base.any q n (nx b)
  exact free b _ e (I.base.free b o q n (nx b))
 .obtain⟨l,m⟩:=I.base.eB b ps q
  obtain⟨p,r⟩:=eB b _ m
  exact⟨l++p,by rw[r,Array.append_assoc]⟩
 .obtain⟨B,a0,k,t,h,f⟩:=fl
  refine⟨B,a0,λb o q n c=>k b o (I.base.keep b o q n c (nx b)) (I.base.free b o q n (nx b)) (d b o q c),λb o q c=> ?_,h,f⟩
  obtain⟨o',e⟩:=I.base.there b o q (nx b)
  exact t b o' e (d b o q c)
end
def Raises(X:Cx)(E:XK):Prop:=∀(pins:aF) (σ:St) (H:Hp) (s:Shared) (e:Addr) (h':Heap) (C:Value) (args:List Value),Inv X pins σ H s->Heap.MadeExcOf s.heap h' e C args->E C none H->X.xe (.ref e) {s with heap:=h'}
section
variable{P:Program}{w:World}{K:Frag}{mg:aq}{base:Heap}{N:List Str}{qual:Str}{scope:Scope}{f:Addr}{cd:Value}{A:Around}{outer:List Env}{s:Shared}{H:Hp}{E:XK}
theorem tR{env:Env}{l:List Env}{b:Addr}(h:b∈frs l):b∈frs (env::l):=by
 obtain⟨e,a,c⟩:=i7.mp h;exact i7.mpr ⟨e,cz _ a,c⟩
theorem vU:Raises (bx (aQ P w) P w K mg base N qual scope f cd A outer s H E) E:=by
 intro pins σ H1 j e h' C args I i k;have stk:=I.stack;have iR:∀b o,H1 b=some o->b∉frs (bx (aQ P w) P w K mg base N qual scope f cd A outer s H E).stack:=λb o q z=>by
  rw[I.qJ b z] at q;cases q
 have h:∀a∈(bx (aQ P w) P w K mg base N qual scope f cd A outer s H E).stack,∀b,a.frame=some b->b∈frs (bx (aQ P w) P w K mg base N qual scope f cd A outer s H E).stack:=λa l b d=>i7.mpr ⟨a,l,d⟩;show wpAny (model P w) _ (leaving _ (.ref e)) _ _ _;refine wpAny_leaves_madeW (base:=hideAll j.heap (frs (bx (aQ P w) P w K mg base N qual scope f cd A outer s H E).stack)) I.ok.frames rfl (λb o q=>of_hideAll _ q) (PySem.W.funFrames_hide stk h) i λm t fl tup p up=>?_;refine⟨e,C,H1,rfl,tN I rfl rfl I.bare (λb o q d=>?_) (λ_ _ _ n=>n) (λ_ _ q=>q) (λ_ _ _ q=>q) (λ_ ps q=>⟨#[],by rw[q];simp⟩) ⟨_,_,λb o q n d=>hideAll_get _ q d,λb o q d=>⟨o,hideAll_get _ q d⟩,λb o q=>?_,fl⟩,k⟩
 .obtain⟨_,o',g,hd⟩:=stk.mem (tR (env:=envOfC qual scope s.heap.objs.size f cd) d)
  rw[q] at g;cases g;exact up b o (i.keeps b o q) hd
 .refine(I.hok b o q).stay (λc u hc r=>hideAll_get _ r ?_) (λ_ r=>r) λ_ _ r=>r
  rcases hc with z|z
  .rw[z];exact iR b o q
  .exact iR c _ z
theorem vq:Passes (aQ P w) (bx (aQ P w) P w K mg base N qual scope f cd A outer s H E) E:=by
 intro pins σ H1 p e s' I h;obtain⟨a,C,H',rfl,F,j⟩:=h;obtain⟨B,a0,k,th,hok,fl⟩:=F.fl;show wpAny (model P w) _ (leaving _ (.ref a)) _ _ _;refine wpAny_leaves_onW I.ok.frames rfl fl λl g up=>⟨a,C,H',rfl,tN I rfl F.os F.bare (λb o q m=>?_) F.free F.tups F.dR F.eB ⟨B,a0,k,th,hok,g⟩,j⟩;have c:=tR (env:=envOfC qual scope s.heap.objs.size f cd) m;obtain⟨r,e⟩:=F.slot b o q c;obtain⟨_,o',d,hd⟩:=fl.2.2.1.mem c;rw[e] at d;cases d;obtain⟨i,n⟩:=up b _ e hd;exact⟨i,n⟩
theorem vn:PassesOwn (model P w) (bx (aQ P w) P w K mg base N qual scope f cd A outer s H E).A (bx (aQ P w) P w K mg base N qual scope f cd A outer s H E).env (bx (aQ P w) P w K mg base N qual scope f cd A outer s H E).xe:=
 PassesOwn.leaving
end
abbrev qV:List Value:=[.type "ValueError",.type "Exception",.type "BaseException",.type "object"]
theorem Aa{K:Frag}{h:Heap}{C:Addr}{b:List Value}{newId:String}(X:K.In h)(q:excIn K C b newId=true):∃nm d N bs bm hdct sn sub ab col dd k0 k1 k2 k3 k5,∃mN:aq,
  h.get? C=some (excClassObj nm d C N bs bm hdct sn sub ab col dd k0 k1 k2 k3 k5 newId)/\h.Ns N mN/\mN "__init__"=none/\OwnTail h b bm:=by
 unfold excIn at q;split at q
 .rename_i dd cd f i
  split at q
  .rename_i k bm k0 k1 k2 k3 n k5 g hs
   simp only[fZ,gF,Bool.not_eq_true'] at q;obtain⟨⟨⟨⟨⟨rfl,rfl⟩,a⟩,j⟩,hok⟩,c⟩:=q;obtain⟨nm,bs,mro,ns,d,hd,sn,sub,ab,col,del⟩:=cd;dsimp only at g a hok c;subst g a;have e:f= #[k0,k1,k2,k3,some (.builtin n),k5]:=by
    obtain⟨l⟩:=f;simp only at hs;rw[hs]
   subst e;exact⟨nm,d,ns,bs,bm,hd,sn,sub,ab,col,dd,k0,k1,k2,k3,k5,_,X _ _ i,.of_isNs (PySem.W.isNs_of_in X hok),PySem.W.nsMap_none_of_in X hok c,PySem.W.tail_of_in X j⟩
  .cases q
 .cases q
section
variable{X:Cx}{E:XK}{x:Str}{C:Addr}{e:Expr}{t:TA}{np cpos pos:Pos}
def FF(E:XK)(C:Addr)(t:TA):TS:=λ_ σ H=>t σ H λvs H1=>vs.length<=sizeLine/\E (.ref C) none H1
theorem DZ(j:Raises X E)(hc:X.calm=true)(k:X.mg x=some (.ref C))(l:excIn X.K C qV "ValueError.__new__"=true)(m:PA X [e] t)(n:Gl X x:=by rfl)(b:(x==("__debug__":Str))=false:=by decide)
  (f:starEach [e] X.env=[(false,eval e X.env)]:=by rfl):PS X (.Raise (some (.Call (.Name x np) [e] [] cpos)) none pos) (FF E C t):=by
 intro pins s σ H D I h;obtain⟨nm,o,N,bs,bm,hdct,sn,sub,ab,col,dd,k0,k1,k2,k3,k5,mN,c,p,d,g⟩:=Aa I.mod.mP l;refine wpAny_Raise_call_subT (nm:=nm) (q:=o) (C:=C) (N:=N) (bs:=bs) (bm:=bm) (hdct:=hdct) (sn:=sn) (sub:=sub) (ab:=ab) (col:=col) (dd:=dd) (k0:=k0) (k1:=k1) (k2:=k2) (k3:=k3) (k5:=k5) (mN:=mN) PySem.F.excBase_ValueError (g.hasType (by decide+kernel)) (I.ok.hd hc) (by rw[f];rfl) d (p8 I n k ⟨rfl,?_⟩ b);have h':=m cpos pins s σ H _ I h;rw[f] at h' ⊢;refine Calls.evalArgs_plain (aD h' λr y ⟨vs,H1,a,u,i⟩=>?_);have v:=u.length;exact⟨rfl,by show r.length<=sizeLine;rw[<-v];exact i.1,a.bk _ _ c,p.keeps a.bk,g.keeps a.bk,λh2 z w=>j _ _ _ _ _ _ _ _ a w i.2⟩
end
def excAt(a:Addr)(C:Value)(h:Heap):Prop:=∃o,h.get? a=some o/\o.cls=C
abbrev z_(a C:Addr):HO:=.ext (excAt a (.ref C))
section
variable{P:Program}{w:World}{K:Frag}{mg:aq}{base:Heap}
def aG(P:Program)(w:World)(K:Frag)(mg:aq)(base:Heap)(k:Nat)(x:Str)(ps:List Str)(sp:Sp):Prop:=
 ∃f fd,cQ P w K mg base (aQ P w) k f fd ps sp/\Binds K fd ps []/\keepIn K (.ref f)=true/\mg x=some (.ref f)
theorem aG.mono{j k:Nat}{x:Str}{ps:List Str}{sp:Sp}(F:aG P w K mg base j x ps sp)(h:j<=k):aG P w K mg base k x ps sp:=by
 obtain⟨f,fd,F,r⟩:=F;exact⟨f,fd,F.mono h,r⟩
theorem TopD.fnX{x:Str}{st:Stmt}{N ps:List Str}{k:Nat}{sp:Sp}(T:TopD K mg x st ps)(S:bE N ps (aI st))(len:∀vs H Q E,sp vs H Q E->vs.length=ps.length)
  (c:∀(f:Addr) (a:Value) (A:Around) (outer:List Env) (s:Shared) (H:Hp) (vs:List V) (Q:VK) (E:XK),bQ k (A.deeper (envOfC x (aI st) s.heap.objs.size f a))->sp vs H Q E->
   ∃t,bY (bx (aQ P w) P w K mg base N x (aI st) f a A outer s H E) (dQ st) t/\t {nx:=λ_ H'=>Q .aJ H',rt:=Q} (start N vs) H):aG P w K mg base (k+1) x ps sp:=by
 obtain⟨f,fd,F,b,m⟩:=T;have kp:=F.kp;obtain⟨i,j,kV,doc,pm,an,a,ct,g,rfl,lk,d⟩:=F.ex;exact⟨f,_,tP lk d S len λA outer s H vs Q E h e=>c f a A outer s H vs Q E h e,b,kp,m⟩
end
section
variable{X:Cx}{k:Nat}{x:Str}{ps:List Str}{sp:Sp}{e fe:Expr}{es:List Expr}{t:TA}{tf:TE}{p pos:Pos}{E:XK}
theorem Dl(F:aG X.prog X.w X.K X.mg X.base k x ps sp)(d:bQ k X.A)(g:Passes (aQ X.prog X.w) X E)(h:PA X (e::es) t)(i:Gl X x:=by rfl)(a:(x==("__debug__":Str))=false:=by decide)
  (j:starEach (e::es) X.env=(false,eval e X.env)::starEach es X.env:=by rfl)(c:(backTo pos (starEach es X.env)).any (·.1)=false:=by rfl):
  PE X (.Call (.Name x p) (e::es) [] pos) (w9 sp [] E t):=by
 obtain⟨f,fd,F,b,kp,m⟩:=F;exact Dk F d i m kp b .nil g h a j c
end
end L2
namespace SS
section
variable{prog:Program}{w:World}{A:Around}{E:aA}{s:Shared}
abbrev BY(w:World):Bool:= !w.params.followText "set-order"
abbrev eU(w:World):Obj:={cls:=.type "set",dict:=none,data:=.set #[] 0 (.fresh 0 0 (BY w))}
theorem code_set_new(a:Value){Q₁:aA}(h:Q₁ (.ref s.heap.objs.size) {s with heap:=s.heap.push (eU w)}):
  codeAny (model prog w) A (.call (.builtin "set.__new__") ⟨[.type "set",a],[]⟩) (wants Q₁ E) s:=by
 refine codeAny_of_tree ?_;show wpAny _ A.in1 (do checkBuiltinCall "set.__new__" ⟨[.type "set",a],[]⟩;again (.builtin "set.__new__" ⟨[.type "set",a],[]⟩)) _ _ s;refine aa (wpAny_of_eq (PySem.F.newCall_set_1 a) (ao ⟨g7 PySem.F.plain_set_new _,gG PySem.F.entry_set_new ?_⟩));rw[g4 PySem.F.plain_set_new _];unfold Builtin.«set.__new__» Builtin.Frozenset.newClass;have b:=sub_set_self;obtain⟨c,g,d,tk,os⟩:=s;dsimp only;wp_walk;refine wpAny_askSetting (ao ?_);dsimp only;simp only[newObj];refine aa (wpAny_alloc (ao ?_));exact ao h
end
theorem wW:Slot "set" "__iter__" "set.__iter__":=
 .of (owner:="set") (n:="__iter__") (by rw[typeLookup_type,q7];kernel_rfl) (by decide+kernel) (by decide+kernel) (by decide+kernel)
  (by first|exact .inl (by decide+kernel)|exact .inr (by decide+kernel)) (by rw[isSubtype_type];kernel_rfl)
theorem slot_next:Slot "set_iterator" "__next__" "set_iterator.__next__":=
 .of (owner:="set_iterator") (n:="__next__") (by rw[typeLookup_type,q7];kernel_rfl) (by decide+kernel) (by decide+kernel) (by decide+kernel)
  (by first|exact .inl (by decide+kernel)|exact .inr (by decide+kernel)) (by rw[isSubtype_type];kernel_rfl)
theorem wX:Slot "set_iterator" "__iter__" "set_iterator.__iter__":=
 .of (owner:="set_iterator") (n:="__iter__") (by rw[typeLookup_type,q7];kernel_rfl) (by decide+kernel) (by decide+kernel) (by decide+kernel)
  (by first|exact .inl (by decide+kernel)|exact .inr (by decide+kernel)) (by rw[isSubtype_type];kernel_rfl)
theorem zZ:entryFor table "set.__iter__"=some Builtin.«frozenset.__iter__»:=
 entryFor_alias (id':="frozenset.__iter__") (by kernel_rfl) (by first|rfl|decide+kernel) (by decide+kernel) (by kernel_rfl)
theorem entry_next:entryFor table "set_iterator.__next__"=some Builtin.«set_iterator.__next__»:=entryFor_of_fast (by kernel_rfl)
theorem x_(a:Value):argsOk "set.__iter__" ⟨[a],[]⟩:=by unfold argsOk;kernel_rfl
theorem args_next(a:Value):argsOk "set_iterator.__next__" ⟨[a],[]⟩:=by unfold argsOk;kernel_rfl
theorem Ge{M:Model}{A:Around}{E:aA}{s:Shared}{src:Source}{n:Nat}{Q:Nat->Shared->Prop}(hn:n≠0)(h:∀i d,i<n->Q i {s with drawn:=d}):wpAny M A (choose src n) Q E s:=λa p _=>by
 unfold choose;rw[Sem.wp_choose];exact⟨hn,h _ _ (mod_lt _ (Nat.pos_of_ne_zero hn))⟩
theorem qy{α:Type}:∀(xs:List α) (i:Nat) (x:α),xs[i]?=some x->xs.Perm (x::xs.eraseIdx i)
 |[],i,x,h=>by simp at h
 |y::r,0,x,h=>by
  simp at h;subst h;simp
 |y::r,i+1,x,h=>by
  simp only[qX] at h;have:=qy r i x h;simp only[List.eraseIdx_cons_succ];exact(this.cons y).trans (Perm.swap x y _)
section
variable{M:Model}{A:Around}{E:aA}{s:Shared}
theorem sX{α:Type}:∀(n:Nat) (xs:List α) (s:Shared) (Q:List α->Shared->Prop),n=xs.length->(∀ys d,ys.Perm xs->Q ys {s with drawn:=d})->wpAny M A (drawOrder n xs) Q E s
 |0,xs,s,Q,hn,h=>by
  cases xs with
  |nil=>unfold drawOrder;exact ao (h [] s.drawn .nil)
  |cons x r=>simp at hn
 |n+1,[],s,Q,hn,h=>by simp at hn
 |n+1,x::r,s,Q,hn,h=>by
  unfold drawOrder;refine aa (Ge (by simp) λi d hi=>?_);have e:(x::r)[i]?=some ((x::r)[i]'hi):=bf hi;rw[e];dsimp only;have a:=qy (x::r) i _ e;refine aa (sX n _ _ _ ?_ λys d' b=>ao ?_)
  .have:=a.length_eq
   simp only[e_] at this hn ⊢;omega
  .exact h _ d' ((b.cons _).trans a.symm)
end
theorem vz{α:Type}(next:Nat->Nat):∀(fuel k:Nat) (left:List α) (out:Array α),fuel=left.length->(pickOrder.go next fuel k left out).toList.Perm (out.toList++left)
 |0,k,left,out,h=>by
  cases left with
  |nil=>unfold pickOrder.go;simp
  |cons x r=>simp at h
 |fuel+1,k,[],out,h=>by simp at h
 |fuel+1,k,x::r,out,h=>by
  unfold pickOrder.go;have hi:next k%(x::r).length<(x::r).length:=mod_lt _ (by simp);have e:(x::r)[next k%(x::r).length]?=some ((x::r)[next k%(x::r).length]'hi):=bf hi;rw[e];dsimp only;have a:=qy (x::r) _ _ e;refine(vz next fuel (k+1) _ _ ?_).trans ?_
  .have:=a.length_eq
   simp only[e_] at this h ⊢;omega
  .rw[jJ,aW]
   exact fH _ a.symm
theorem DM{α:Type}(next:Nat->Nat)(xs:Array α):(pickOrder next xs).toList.Perm xs.toList:=by
 unfold pickOrder;exact(vz next xs.size 0 xs.toList #[] (by simp)).trans (by simp)
def cY(h:Heap)(it a:Addr)(first:Value)(i n ep:Nat):Prop:=∃o,h.get? it=some o/\o.cls=.type "set_iterator"/\o.data=.fields #[first,.int i 0,.ref a,.int n 0,.int ep 0]
def eO(h:Heap)(a:Addr)(es:Array (Int×Value))(ep:Nat)(t:SetTable):Prop:=∃o,h.get? a=some o/\o.data=.set es ep t/\t.fits es.size=true
section
variable{prog:Program}{w:World}{A:Around}{E:aA}{s:Shared}{it a:Addr}{es:Array (Int×Value)}{ep:Nat}{t:SetTable}
theorem cY.typeIs{first:Value}{i n:Nat}(h:cY s.heap it a first i n ep):s.TypeIs (.ref it) "set_iterator":=by
 obtain⟨o,h1,h2,_⟩:=h;exact⟨o,h1,h2⟩
theorem cY.put{first v:Value}{i n k:Nat}{h:Heap}(x:cY h it a first i n ep)(o:Obj)(b:h.get? it=some o):(h.update it (Obj.mapFields (·.setIfInBounds k v))).get? it=some (o.mapFields (·.setIfInBounds k v)):=by
 obtain⟨o',h1,h2,h3⟩:=x;rw[h1] at b;cases b;exact f5 _ h1 (qZ (gE h3 _))
theorem u5{slot:Int}{i:Nat}{x:Value}{nx:Nat}{Q:Option Value->Shared->Prop}(hi:cY s.heap it a (.int slot 0) i es.size ep)(hs:eO s.heap a es ep t)
  (hn:∀(A:Around) (Q:Option (Value×Nat)->Shared->Prop) (E:aA),Q (some (x,nx)) s->wpAny (model prog w) A (setNext a slot.toNat i ep) Q E s)
  (f:∀h',cY h' it a (.int nx 0) (i+1) es.size ep->SameBut it s.heap h'->Q (some x) {s with heap:=h'}):wpAny (model prog w) A (pyNext (.ref it)) Q E s:=by
 obtain⟨o,c,hc,hd⟩:=id hi
 obtain⟨os,d,e,g⟩:=hs
 unfold pyNext
 refine aa (lB (lC (name:=Str.ofString "__next__") hi.typeIs slot_next (g8 slot_next hi.typeIs entry_next ?_ (args_next _))))
 show wpAny _ _ (fieldsOf (.ref it)>>=_) _ _ s
 refine aa (n9 c hd ?_)
 show wpAny _ _ (setEntries a>>=_) _ _ s
 refine aa (lF d e g ?_)
 simp only[ic,bU,bH]
 refine aa (hn _ _ _ ?_)
 dsimp only
 refine aa (jL c hd (by simp) ?_)
 have b:=hi.put (k:=0) (v:=rawInt nx) o c
 refine aa (jL b (gE hd _) (by simp) (ao ⟨x,rfl,ao (f _ ?_ ((SameBut.update ..).trans (SameBut.update ..)))⟩))
 refine⟨_,f5 _ b (qZ (gE (gE hd _) _)),(Obj.cls_mapFields ..).trans ((Obj.cls_mapFields ..).trans hc),?_⟩
 rw[gE (gE hd _)]
 simp[rawInt]
end
theorem z0:entryFor table "set_iterator.__iter__"=some Builtin.«dict_keyiterator.__iter__»:=
 entryFor_alias (id':="dict_keyiterator.__iter__") (by kernel_rfl) (by first|rfl|decide+kernel) (by decide+kernel) (by kernel_rfl)
theorem yc(a:Value):argsOk "set_iterator.__iter__" ⟨[a],[]⟩:=by unfold argsOk;kernel_rfl
section
variable{prog:Program}{w:World}{A:Around}{E:aA}{s:Shared}{it a:Addr}{es:Array (Int×Value)}{ep:Nat}{t:SetTable}
theorem pZ{first:Value}{i n:Nat}{Q:aA}(hi:cY s.heap it a first i n ep)(h:Q (.ref it) s):wpAny (model prog w) A (pyIter (.ref it)) Q E s:=by
 refine wpAny_pyIter_slot hi.typeIs wX (g8 wX hi.typeIs z0 ?_ (yc _));show wpAny _ _ (ret (.ref it)) _ _ s;exact ao ⟨_,rfl,"set_iterator",_,hi.typeIs,slot_next.lookup,h⟩
theorem tE{slot:Int}{i:Nat}{Q:Option Value->Shared->Prop}(f:A.handled=none)(hi:cY s.heap it a (.int slot 0) i es.size ep)(hs:eO s.heap a es ep t)
  (hn:∀(A:Around) (Q:Option (Value×Nat)->Shared->Prop) (E:aA),Q none s->wpAny (model prog w) A (setNext a slot.toNat i ep) Q E s)
  (g:∀h',ExtBut it s.heap h'->Q none {s with heap:=h'}):wpAny (model prog w) A (pyNext (.ref it)) Q E s:=by
 obtain⟨o,e,hc,hd⟩:=id hi
 obtain⟨os,c,d,h⟩:=hs
 unfold pyNext
 refine aa (lB (lC (name:=Str.ofString "__next__") hi.typeIs slot_next (g8 slot_next hi.typeIs entry_next ?_ (args_next _))))
 show wpAny _ _ (fieldsOf (.ref it)>>=_) _ _ s
 refine aa (n9 e hd ?_)
 show wpAny _ _ (setEntries a>>=_) _ _ s
 refine aa (lF c d h ?_)
 simp only[ic,bU,bH]
 refine aa (hn _ _ _ ?_)
 dsimp only
 refine aa (jL e hd (by simp) ?_)
 show wpAny _ _ (newExc (.type "StopIteration") []>>=_) _ _ _
 refine aa ?_
 simp only[newExc,newTuple]
 refine aa (dh ?_ (by size_fits))
 refine aa (m:=firstArgMember _ _) (wpAny_of_eq (a:=Value.none) (by first|rfl|(simp only[firstArgMember];rfl)) ?_)
 refine dh ?_ (by size_fits)
 simp only[raiseNew]
 refine aa (wpAny_handled ?_)
 rw[show A.in1.handled=none from f]
 refine aa (ao (wpAny_throw ?_))
 refine aa (oh (T:="StopIteration") (b:=true) ⟨_,bL _ rfl,rfl⟩ isSubtype_stop ?_)
 exact ao (g _ (((SameBut.update ..).extBut.push _).push _))
theorem Cy{d:Addr}{ps:List Nat}{i p:Nat}{h0:Int}{x:Value}{Q:Option Value->Shared->Prop}(hi:cY s.heap it a (.ref d) i es.size ep)(hs:eO s.heap a es ep t)
  (k:∃o n,s.heap.get? d=some o/\o.data= .seq ((ps.map λ(i:Nat)=>rawInt i).toArray) n)(l:ps[i]? =some p)(m:es[p]? =some (h0,x))
  (q:∀h',cY h' it a (.ref d) (i+1) es.size ep->SameBut it s.heap h'->Q (some x) {s with heap:=h'}):wpAny (model prog w) A (pyNext (.ref it)) Q E s:=by
 obtain⟨o,f,hc,hd⟩:=id hi
 obtain⟨os,b,c,j⟩:=hs
 obtain⟨r,u,g,h⟩:=k
 unfold pyNext
 refine aa (lB (lC (name:=Str.ofString "__next__") hi.typeIs slot_next (g8 slot_next hi.typeIs entry_next ?_ (args_next _))))
 show wpAny _ _ (fieldsOf (.ref it)>>=_) _ _ s
 refine aa (n9 f hd ?_)
 show wpAny _ _ (setEntries a>>=_) _ _ s
 refine aa (lF b c j ?_)
 simp only[ic,bU,bH]
 refine aa (g9 g h ?_)
 have e:((ps.map λ(i:Nat)=>rawInt i).toArray)[((i:Int)).toNat]? =some (Value.int (p:Int) 0):=by
  simp[l,rawInt]
 dsimp only
 rw[e]
 dsimp only
 refine aa ?_
 unfold setNextDrawn
 refine aa (fW b c j ?_)
 dsimp only
 simp only[oA,ic,bU,bH]
 rw[m]
 refine ao ?_
 refine aa (jL f hd (by simp) (ao ⟨x,rfl,ao (q _ ?_ (SameBut.update ..))⟩))
 refine⟨_,f5 _ f (qZ (gE hd _)),(Obj.cls_mapFields ..).trans hc,?_⟩
 rw[gE hd]
 simp[rawInt]
theorem zY{l:Addr}{ps:List Nat}{i:Nat}{Q:Option Value->Shared->Prop}(p:A.handled=none)(hi:cY s.heap it a (.ref l) i es.size ep)(hs:eO s.heap a es ep t)
  (q:∃o n,s.heap.get? l=some o/\o.data= .seq ((ps.map λ(i:Nat)=>rawInt i).toArray) n)(r:ps[i]? =none)
  (u:∀h',ExtBut it s.heap h'->Q none {s with heap:=h'}):wpAny (model prog w) A (pyNext (.ref it)) Q E s:=by
 obtain⟨o,c,hc,hd⟩:=id hi
 obtain⟨os,d,f,x⟩:=hs
 obtain⟨y,z,g,h⟩:=q
 unfold pyNext
 refine aa (lB (lC (name:=Str.ofString "__next__") hi.typeIs slot_next (g8 slot_next hi.typeIs entry_next ?_ (args_next _))))
 show wpAny _ _ (fieldsOf (.ref it)>>=_) _ _ s
 refine aa (n9 c hd ?_)
 show wpAny _ _ (setEntries a>>=_) _ _ s
 refine aa (lF d f x ?_)
 simp only[ic,bU,bH]
 refine aa (g9 g h ?_)
 have e:((ps.map λ(i:Nat)=>rawInt i).toArray)[((i:Int)).toNat]? =none:=by
  simp only[oA,List.getElem?_toArray,bD,r,Option.map_none]
 dsimp only
 rw[e]
 dsimp only
 refine aa (jL c hd (by simp) ?_)
 have j:=hi.put (k:=0) (v:=rawInt 0) o c
 refine aa (jL j (gE hd _) (by simp) ?_)
 show wpAny _ _ (newExc (.type "StopIteration") []>>=_) _ _ _
 refine aa ?_
 simp only[newExc,newTuple]
 refine aa (dh ?_ (by size_fits))
 refine aa (m:=firstArgMember _ _) (wpAny_of_eq (a:=Value.none) (by first|rfl|(simp only[firstArgMember];rfl)) ?_)
 refine dh ?_ (by size_fits)
 simp only[raiseNew]
 refine aa (wpAny_handled ?_)
 rw[show A.in1.handled=none from p]
 refine aa (ao (wpAny_throw ?_))
 refine aa (oh (T:="StopIteration") (b:=true) ⟨_,bL _ rfl,rfl⟩ isSubtype_stop ?_)
 exact ao (u _ ((((SameBut.update ..).trans (SameBut.update ..)).extBut.push _).push _))
end
section
variable{prog:Program}{w:World}{A:Around}{E:aA}{s:Shared}{it a:Addr}{es:Array (Int×Value)}{ep:Nat}{t:SetTable}
theorem l5{Q:Bool->Shared->Prop}(h:Q (w.params.followText "set-order") s):wpAny (model prog w) A setsByText Q E s:=by
 unfold setsByText;exact aa (wpAny_askSetting (ao h))
theorem eO.keep{h h':Heap}(x:eO h a es ep t)(k:∀o,h.get? a=some o->h'.get? a=some o):eO h' a es ep t:=by
 obtain⟨o,e,r⟩:=x;exact⟨o,k o e,r⟩
theorem cY.keep{h h':Heap}{first:Value}{i n:Nat}(x:cY h it a first i n ep)(k:∀o,h.get? it=some o->h'.get? it=some o):cY h' it a first i n ep:=by
 obtain⟨o,e,r⟩:=x;exact⟨o,k o e,r⟩
theorem nextT{slot i:Nat}{Q:Option (Value×Nat)->Shared->Prop}(d:w.params.followText "set-order"=true)(hs:eO s.heap a es ep t)
  (h:Q (((pickOrder (w.params.setOrder a ep) es)[i]?).map λe=>(e.2,slot)) s):wpAny (model prog w) A (setNext a slot i ep) Q E s:=by
 obtain⟨os,b,c,f⟩:=hs;unfold setNext;refine aa (fW b c f ?_);dsimp only;refine aa (l5 ?_);rw[d,ai rfl];simp only[ic,bU,bH];refine aa ?_;unfold setWalk;refine aa (fW b c f ?_);dsimp only;refine aa (l5 ?_);rw[d,ai rfl];exact aa (wpAny_askSetting (ao (ao h)))
theorem Ga(n:w.params.followText "set-order"=true)(p:A.handled=none)(l:a≠it):
  Walks prog w A it [it,a] [it] ((pickOrder (w.params.setOrder a ep) es).toList.map (·.2)).length (λi v=>((pickOrder (w.params.setOrder a ep) es).toList.map (·.2))[i]? =some v) (λi h=>cY h it a (.int 0 0) i es.size ep/\eO h a es ep t) where
 sub:=λb d=>by simp at d;simp[d]
 frame:=λ_ _ _ st hk=>⟨st.1.keep λo e=>hk it (by simp) o e,st.2.keep λo e=>hk a (by simp) o e⟩
 item:=λi s Q E hi st f=>by
  have c:i<(pickOrder (w.params.setOrder a ep) es).size:=by simpa using hi
  have k:(pickOrder (w.params.setOrder a ep) es)[i]? =some ((pickOrder (w.params.setOrder a ep) es)[i]'c):=cu c
  refine u5 (slot:=0) (x:=((pickOrder (w.params.setOrder a ep) es)[i]'c).2) (nx:=0) st.1 st.2 (λA' q r hq=>nextT n st.2 (by rw[k];exact hq)) λh' g j=> ?_
  refine f _ h' s.toks ?_ ⟨g,st.2.keep λo e=>(j.2 a l).trans e⟩ λb o d e=>(j.2 b λz=>d (by simp[z])).trans e
  rw[bD,dj,k];rfl
 done:=λs Q E st f=>by
  have k:(pickOrder (w.params.setOrder a ep) es)[((pickOrder (w.params.setOrder a ep) es).toList.map (·.2)).length]? =none:=by simp
  exact tE (slot:=0) p st.1 st.2 (λA' q r hq=>nextT n st.2 (by rw[k];exact hq)) λh' m=>f h' s.toks λb o d e=>m b o (λz=>d (by simp[z])) e
 self:=λ_ _ _ _ st f=>pZ st.1 f
theorem F9{g:Addr}{ps:List Nat}(C:A.handled=none)(m:a≠it)(q:g≠it)(u:ps.Perm (range es.size)):
  Walks prog w A it [it,a,g] [it] (ps.map λp=>((es[p]?).getD (0,.none)).2).length (λi v=>(ps.map λp=>((es[p]?).getD (0,.none)).2)[i]? =some v)
   (λi h=>cY h it a (.ref g) i es.size ep/\eO h a es ep t/\∃o n,h.get? g=some o/\o.data= .seq ((ps.map λ(i:Nat)=>rawInt i).toArray) n) where
 sub:=λb j=>by simp at j;simp[j]
 frame:=λ_ _ _ st hk=>⟨st.1.keep λo e=>hk it (by simp) o e,st.2.1.keep λo e=>hk a (by simp) o e,by obtain⟨o,n,e,r⟩:=st.2.2;exact⟨o,n,hk g (by simp) o e,r⟩⟩
 item:=λi s Q E hi st k=>by
  have c:i<ps.length:=by simpa using hi
  have y:ps[i]? =some (ps[i]'c):=bf c
  have d:(ps[i]'c)<es.size:=ff.mp (u.mem_iff.mp (bM c))
  have B:es[ps[i]'c]? =some ((es[ps[i]'c]'d).1,(es[ps[i]'c]'d).2):=cu d
  refine Cy st.1 st.2.1 st.2.2 y B λh' l f=> ?_
  refine k _ h' s.toks ?_ ⟨l,st.2.1.keep λo e=>(f.2 a m).trans e,by obtain⟨o,n,e,r⟩:=st.2.2;exact⟨o,n,(f.2 g q).trans e,r⟩⟩ λb o j e=>(f.2 b λz=>j (by simp[z])).trans e
  rw[bD,y]
  simp only[map_some,B,getD_some]
 done:=λs Q E st k=>by
  exact zY C st.1 st.2.1 st.2.2 (by simp) λh' x=>k h' s.toks λb o j e=>x b o (λz=>j (by simp[z])) e
 self:=λ_ _ _ _ st k=>pZ st.1 k
end
section
variable{prog:Program}{w:World}{A:Around}{E:aA}{s:Shared}{it a:Addr}{es:Array (Int×Value)}{ep:Nat}{t:SetTable}
theorem DI{ps:List Nat}(a:ps.Perm (range es.size)):(ps.map λp=>((es[p]?).getD (0,.none)).2).Perm (es.toList.map (·.2)):=by
 refine(a.map _).trans ?_;have:((range es.size).map λp=>((es[p]?).getD (0,.none)).2)=es.toList.map (·.2):=by
  apply List.ext_getElem?;intro i;simp only[bD,dj];by_cases hi:i<es.size
  .rw[List.getElem?_range hi,cu hi]
   simp[cu hi]
  .rw[qY (by simpa using hi),ow (by omega)];rfl
 rw[this]
end
end SS
namespace L2
section
variable{X:Cx}
def strLt(a b:Str):Prop:=a.cps.toList<b.cps.toList
end
section
variable{prog:Program}{w:World}{A:Around}{E:aA}{s:Shared}
theorem tuple_addW0(l b:Addr)(items a:Array Value)(n f:Nat)(dd c:Option Addr)(i e:Array (Option Value))(j:items.isEmpty=true):
  Meets (Builtin.«tuple.__add__» ⟨[.ref l,.ref b],[]⟩) (λ_ R s=>s.heap.get? l=some {cls:=.type "tuple",dict:=dd,data:=.seq items n,slots:=i}/\s.heap.get? b=some {cls:=.type "tuple",dict:=c,data:=.seq a f,slots:=e}/\R (.ok (.ret (Value.ref b))) {s with heap:=s.heap,toks:=s.toks}):=
 .of_wp λprog w A R s h=>by obtain⟨o,g,d,tk,os⟩:=s;obtain⟨k,m,h⟩:=h;have f1:=AutoSeq1.idx_int;have f2:=AutoSeq1.sub_tuple_tuple;have p:=AutoSeq1.sub_list_list;have f4:=AutoSeq1.sub_tuple_list;have q:=AutoSeq1.sub_list_tuple;wp_walk using oi k,oi m;exact⟨_,rfl,h⟩
end
section
variable{X:Cx}
def Eb(K:Frag):R2:=λx y H Q=>∃a b ys,x=.ref a/\y=.ref b/\bg K H a []/\bg K H b ys/\Q (.ref b) H
theorem C2:aO X (binaryOp .Add) (Eb X.K):=by
 intro pins s σ H x y v u Q I k l h;obtain⟨a,b,ys,rfl,rfl,m,o,q⟩:=h;cases k;cases l;obtain⟨its,p,p1,_⟩:=I.tuple m;obtain⟨c,w,p2,_⟩:=I.tuple o;cases p;obtain⟨⟨cls,dd,data,r⟩,i,hc,n,hd⟩:=id p1;obtain⟨⟨j,f,data2,g⟩,d,e,t,hd2⟩:=id p2;simp only at hc hd e hd2;subst hc hd e hd2;exact concat_meets ⟨_,i,rfl⟩ ⟨_,d,rfl⟩ noFill_tuple_add seq_tuple_add slot_tuple_add entry_tuple_add (args_tuple_add_2 _ _)
  (tuple_addW0 a b #[] c.toArray n t dd f r g rfl) ⟨i,d,⟨.ref b,H,I,rfl,q⟩⟩
def vJ(K:Frag):R2:=λx y H Q=>∃a b xs ys,x=.ref a/\y=.ref b/\bg K H a xs/\bg K H b ys/\xs.length+ys.length<=sizeLine/\
 (xs=[]->Q (.ref b) H)/\(xs≠[]->ys=[]->Q (.ref a) H)/\(xs≠[]->ys≠[]->∀p,H p=none->Q (.ref p) (upd H p (.tup (xs++ys))))
theorem C0:aO X (binaryOp .Add) (vJ X.K):=by
 intro pins s σ H x y v u Q I d e h;obtain⟨a,b,xs,ys,rfl,rfl,f,g,i,j,k,l⟩:=h;by_cases c:xs=[]
 .subst c
  exact C2 pins s σ H _ _ v u Q I d e ⟨a,b,ys,rfl,rfl,f,g,j rfl⟩
 .exact C1 pins s σ H _ _ v u Q I d e ⟨a,b,xs,ys,rfl,rfl,f,g,c,i,k c,l c⟩
end
end L2
namespace DP
open L2
inductive D where
 |aJ|bl (b:Bool)|int (i:Int)|str (x:Str)|tup (xs:List D)|ref (r:Nat)|fl (xs:List Int)|exc (c:Str)
inductive C where
 |lst (xs:List D)|dct (kvs:List (Key×D))|gU (o:Obj) (kvs:List (Key×D))|ins (cl:Str) (fs:List (Str×D))
abbrev Ar:=List C
abbrev Io:=Nat->Addr
section
variable(mg:aq)
mutual
def RV(ι:Io)(n:Nat)(H:Hp):D->V->Prop
 |.aJ,v=>v=.aJ
 |.bl b,v=>v=.bl b
 |.int i,v=>v=.int i
 |.str x,v=>v=.str x
 |.tup ds,v=>∃a xs,v=.ref a/\H a=some (.tup xs)/\ak ι n H ds xs
 |.ref r,v=>r<n/\v=.ref (ι r)
 |.fl ns,v=>∃a o,v=.ref a/\H a=some (.bR o (.lst (ns.map V.int)))
 |.exc c,v=>∃a C,v=.ref a/\mg c=some (.ref C)/\H a=some (z_ a C)
def ak(ι:Io)(n:Nat)(H:Hp):List D->List V->Prop
 |[],xs=>xs=[]
 |d::ds,xs=>∃x r,xs=x::r/\RV ι n H d x/\ak ι n H ds r
end
def RK(ι:Io)(n:Nat)(H:Hp):List (Key×D)->List (Key×V)->Prop
 |[],xs=>xs=[]
 |p::ds,xs=>∃x r,xs=(p.1,x)::r/\RV mg ι n H p.2 x/\RK ι n H ds r
def RF(ι:Io)(n:Nat)(H:Hp):List (Str×D)->List (Str×V)->Prop
 |[],xs=>xs=[]
 |p::ds,xs=>∃x r,xs=(p.1,x)::r/\RV mg ι n H p.2 x/\RF ι n H ds r
def CO(ι:Io)(n:Nat)(H:Hp)(a:Addr):C->Prop
 |.lst ds=>∃xs,H a=some (.lst xs)/\ak mg ι n H ds xs
 |.dct kvs=>∃xs,H a=some (.dK xs)/\RK mg ι n H kvs xs
 |.gU o kvs=>∃xs,H a=some (.bR o (.dK xs))/\RK mg ι n H kvs xs
 |.ins cl fs=>∃Cc dx xs,mg cl=some (.ref Cc)/\H a=some (.ins Cc dx xs)/\RF mg ι n H fs xs
structure RA(ι:Io)(H:Hp)(A:Ar):Prop where
 eS:∀r c,A[r]? =some c->CO mg ι A.length H (ι r) c
 inj:∀r q,r<A.length->q<A.length->ι r=ι q->r=q
end
def fB:HO->Bool
 |.lst _|.dK _|.bR _ (.dK _)|.ins _ _ _=>true
 |_=>false
structure Ext(A:Ar)(ι:Io)(H:Hp)(A':Ar)(ι':Io)(H':Hp):Prop where
 len:A.length<=A'.length
 ag:∀r,r<A.length->ι' r=ι r
 im:∀r,r<A.length->∃o,H (ι r)=some o/\fB o=true
 mo:∀b o,H b=some o->(∀r,r<A.length->ι r≠b)->H' b=some o
 nw:∀r,A.length<=r->r<A'.length->H (ι' r)=none
 al:∀b o,H b=some o->∃o',H' b=some o'
theorem Ext.fix{A A':Ar}{ι ι':Io}{H H':Hp}(e:Ext A ι H A' ι' H'){b:Addr}{o:HO}(a:fB o=false)(h:H b=some o):H' b=some o:=e.mo b o h λr c z=>by
 obtain⟨u,h1,h2⟩:=e.im r c;rw[z,h] at h1;cases h1;rw[a] at h2;cases h2
theorem Ext.trans{A g i:Ar}{ι e d:Io}{H H1 H2:Hp}(a:Ext A ι H g e H1)(b:Ext g e H1 i d H2):Ext A ι H i d H2 where
 len:=cO a.len b.len
 ag:=λr h=>(b.ag r (bO h a.len)).trans (a.ag r h)
 im:=a.im
 mo:=λc o h hn=>b.mo c o (a.mo c o h hn) λr k z=>by
  by_cases f:r<A.length
  .rw[a.ag r f] at z;exact hn r f z
  .have:=a.nw r (by omega) k
   rw[z,h] at this;cases this
 nw:=λr h1 h2=>by
  by_cases f:r<g.length
  .rw[b.ag r f];exact a.nw r h1 f
  .have j:=b.nw r (by omega) h2
   cases q:H (d r) with
   |none=>rfl
   |some o=>
    obtain⟨o',h'⟩:=a.al _ o q
    rw[h'] at j;cases j
 al:=λc o h=>by
  obtain⟨l,h1⟩:=a.al c o h
  exact b.al c l h1
section
variable{mg:aq}{A A':Ar}{ι ι':Io}{H H':Hp}
section
variable{n n':Nat}
mutual
theorem RV.ag(hn:n<=n')(e:∀r,r<n->ι' r=ι r)(i:∀b o,fB o=false->H b=some o->H' b=some o):∀(d:D) (v:V),RV mg ι n H d v->RV mg ι' n' H' d v
 |.aJ,_,h=>h
 |.bl _,_,h=>h
 |.int _,_,h=>h
 |.str _,_,h=>h
 |.tup ds,v,h=>by
  obtain⟨a,xs,f,g,j⟩:=h;exact⟨a,xs,f,i _ _ rfl g,ak.ag hn e i ds xs j⟩
 |.ref r,v,h=>⟨bO h.1 hn,by rw[e r h.1];exact h.2⟩
 |.fl ns,v,h=>by
  obtain⟨a,o,f,g⟩:=h;exact⟨a,o,f,i _ _ rfl g⟩
 |.exc c,v,h=>by
  obtain⟨a,C,f,g,j⟩:=h;exact⟨a,C,f,g,i _ _ rfl j⟩
theorem ak.ag(hn:n<=n')(a:∀r,r<n->ι' r=ι r)(c:∀b o,fB o=false->H b=some o->H' b=some o):∀(ds:List D) (vs:List V),ak mg ι n H ds vs->ak mg ι' n' H' ds vs
 |[],_,h=>h
 |d::ds,vs,h=>by
  obtain⟨x,r,e,f,g⟩:=h;exact⟨x,r,e,RV.ag hn a c d x f,ak.ag hn a c ds r g⟩
end
theorem RK.ag(hn:n<=n')(a:∀r,r<n->ι' r=ι r)(c:∀b o,fB o=false->H b=some o->H' b=some o):∀(ds:List (Key×D)) (vs:List (Key×V)),RK mg ι n H ds vs->RK mg ι' n' H' ds vs
 |[],_,h=>h
 |d::ds,vs,h=>by
  obtain⟨x,r,e,f,g⟩:=h;exact⟨x,r,e,RV.ag hn a c _ x f,RK.ag hn a c ds r g⟩
theorem RF.ag(hn:n<=n')(a:∀r,r<n->ι' r=ι r)(c:∀b o,fB o=false->H b=some o->H' b=some o):∀(ds:List (Str×D)) (vs:List (Str×V)),RF mg ι n H ds vs->RF mg ι' n' H' ds vs
 |[],_,h=>h
 |d::ds,vs,h=>by
  obtain⟨x,r,e,f,g⟩:=h;exact⟨x,r,e,RV.ag hn a c _ x f,RF.ag hn a c ds r g⟩
theorem CO.ag{a:Addr}(hn:n<=n')(d:∀r,r<n->ι' r=ι r)(g:∀b o,fB o=false->H b=some o->H' b=some o)(i:∀o,H a=some o->H' a=some o):∀(c:C),CO mg ι n H a c->CO mg ι' n' H' a c
 |.lst ds,h=>by
  obtain⟨xs,e,f⟩:=h;exact⟨xs,i _ e,ak.ag hn d g ds xs f⟩
 |.dct ds,h=>by
  obtain⟨xs,e,f⟩:=h;exact⟨xs,i _ e,RK.ag hn d g ds xs f⟩
 |.gU o ds,h=>by
  obtain⟨xs,e,f⟩:=h;exact⟨xs,i _ e,RK.ag hn d g ds xs f⟩
 |.ins cl ds,h=>by
  obtain⟨j,dx,xs,k,e,f⟩:=h;exact⟨j,dx,xs,k,i _ e,RF.ag hn d g ds xs f⟩
end
theorem RV.ext(e:Ext A ι H A' ι' H')(d:D)(v:V)(h:RV mg ι A.length H d v):RV mg ι' A'.length H' d v:=RV.ag e.len e.ag (λ_ _ m h=>e.fix m h) d v h
theorem ak.ext(e:Ext A ι H A' ι' H')(d:List D)(v:List V)(h:ak mg ι A.length H d v):ak mg ι' A'.length H' d v:=ak.ag e.len e.ag (λ_ _ m h=>e.fix m h) d v h
theorem CO.ext{a:Addr}(e:Ext A ι H A' ι' H')(b:∀o,H a=some o->H' a=some o)(c:C)(h:CO mg ι A.length H a c):CO mg ι' A'.length H' a c:=CO.ag (a:=a) (H:=H) (H':=H') e.len e.ag (λ_ _ m h=>e.fix m h) b c h
theorem ak.length:∀{ds:List D} {vs:List V} {n:Nat},ak mg ι n H ds vs->ds.length=vs.length
 |[],vs,_,h=>by have h':vs=[]:=h;rw[h'];rfl
 |d::ds,vs,n,h=>by
  obtain⟨x,r,rfl,_,a⟩:=h;simp[ak.length a]
theorem ak.get:∀{ds:List D} {vs:List V} {n i:Nat} {d:D},ak mg ι n H ds vs->ds[i]?=some d->∃v,vs[i]?=some v/\RV mg ι n H d v
 |[],_,_,_,_,_,e=>by simp at e
 |d::ds,vs,n,0,d',h,e=>by
  obtain⟨x,r,rfl,a,_⟩:=h;simp at e;subst e;exact⟨x,rfl,a⟩
 |d::ds,vs,n,i+1,d',h,e=>by
  obtain⟨x,r,rfl,_,b⟩:=h;obtain⟨v,h1,h2⟩:=ak.get (i:=i) b (by simpa using e);exact⟨v,by simpa using h1,h2⟩
theorem ak.app:∀{ds es:List D} {vs ws:List V} {n:Nat},ak mg ι n H ds vs->ak mg ι n H es ws->ak mg ι n H (ds++es) (vs++ws)
 |[],_,vs,_,_,h,q=>by have h':vs=[]:=h;rw[h'];exact q
 |d::ds,es,vs,ws,n,h,q=>by
  obtain⟨x,r,rfl,a,b⟩:=h;exact⟨x,r++ws,rfl,a,ak.app b q⟩
theorem ak.take:∀{ds:List D} {vs:List V} {n:Nat} (k:Nat),ak mg ι n H ds vs->ak mg ι n H (ds.take k) (vs.take k)
 |ds,vs,n,0,h=>by simp[ak]
 |[],vs,n,k+1,h=>by have h':vs=[]:=h;rw[h'];simp[ak]
 |d::ds,vs,n,k+1,h=>by
  obtain⟨x,r,rfl,a,b⟩:=h;exact⟨x,r.take k,rfl,a,ak.take k b⟩
theorem ak.drop:∀{ds:List D} {vs:List V} {n:Nat} (k:Nat),ak mg ι n H ds vs->ak mg ι n H (ds.drop k) (vs.drop k)
 |ds,vs,n,0,h=>by simpa using h
 |[],vs,n,k+1,h=>by have h':vs=[]:=h;rw[h'];simp[ak]
 |d::ds,vs,n,k+1,h=>by
  obtain⟨x,r,rfl,b,a⟩:=h;exact ak.drop k a
theorem RA.im(R:RA mg ι H A):∀r,r<A.length->∃o,H (ι r)=some o/\fB o=true:=λr h=>by
 obtain⟨c',b⟩:∃c',A[r]?=some c':=⟨A[r],by rw[bf h]⟩;have:=R.eS r c' b;cases c' with
 |lst ds=>obtain⟨xs,a,_⟩:=this;exact⟨_,a,rfl⟩
 |dct ds=>obtain⟨xs,a,_⟩:=this;exact⟨_,a,rfl⟩
 |gU o ds=>obtain⟨xs,a,_⟩:=this;exact⟨_,a,rfl⟩
 |ins cl ds=>obtain⟨c,dx,xs,_,a,_⟩:=this;exact⟨_,a,rfl⟩
theorem RA.refl(R:RA mg ι H A):Ext A ι H A ι H:=⟨aC _,λ_ _=>rfl,R.im,λ_ _ h _=>h,λr h1 h2=>absurd h2 (by omega),λ_ o h=>⟨o,h⟩⟩
theorem RA.tK(R:RA mg ι H A){p:Addr}{o:HO}(a:H p=none):Ext A ι H A ι (upd H p o):=
 ⟨aC _,λ_ _=>rfl,R.im,λb u h _=>by rw[bh (c5 h a)];exact h,λr h1 h2=>absurd h2 (by omega),λb u h=>⟨u,by rw[bh (c5 h a)];exact h⟩⟩
theorem RA.tL(R:RA mg ι H A){p:Addr}{o:HO}{c:C}(a:H p=none):Ext A ι H (A++[c]) (λr=>if r=A.length then p else ι r) (upd H p o):=
 ⟨by simp,λr h=>by
  show(if r=A.length then p else ι r)=ι r;rw[aj (by omega)],R.im,λb u h _=>by rw[bh (c5 h a)];exact h,λr h1 h2=>by
  have e:r=A.length:=by simp at h2;omega
  show H (if r=A.length then p else ι r)=none;rw[ai e];exact a,λb u h=>⟨u,by rw[bh (c5 h a)];exact h⟩⟩
theorem RA.tM(R:RA mg ι H A){r:Nat}{o:HO}{c:C}(d:r<A.length):Ext A ι H (A.set r c) ι (upd H (ι r) o):=
 ⟨by simp,λ_ _=>rfl,R.im,λb u h hn=>by rw[bh (λe=>hn r d e.symm)];exact h,λq h1 h2=>absurd h2 (by simp;omega),λb u h=>by
  by_cases a:b=ι r
  .subst a;exact⟨o,gZ⟩
  .exact⟨u,by rw[bh a];exact h⟩⟩
theorem RA.fix(R:RA mg ι H A)(e:Ext A ι H A ι H')(k:∀b o,H b=some o->H' b=some o):RA mg ι H' A:=⟨λr c h=>CO.ext e (λo q=>k _ o q) c (R.eS r c h),R.inj⟩
theorem RA.push{p:Addr}{o:HO}{c:C}(R:RA mg ι H A)(e:H p=none)(hc:CO mg (λr=>if r=A.length then p else ι r) (A.length+1) (upd H p o) p c):
  RA mg (λr=>if r=A.length then p else ι r) (upd H p o) (A++[c])/\Ext A ι H (A++[c]) (λr=>if r=A.length then p else ι r) (upd H p o):=by
 have E:Ext A ι H (A++[c]) (λr=>if r=A.length then p else ι r) (upd H p o):=R.tL e;have tr:∀r,r<A.length->∃u,H (ι r)=some u:=λr h=>by
  obtain⟨c',f⟩:∃c',A[r]?=some c':=⟨A[r],by rw[bf h]⟩;have:=R.eS r c' f;cases c' with
  |lst ds=>obtain⟨xs,b,_⟩:=this;exact⟨_,b⟩
  |dct ds=>obtain⟨xs,b,_⟩:=this;exact⟨_,b⟩
  |gU o ds=>obtain⟨xs,b,_⟩:=this;exact⟨_,b⟩
  |ins cl ds=>obtain⟨j,dx,xs,_,b,_⟩:=this;exact⟨_,b⟩
 refine⟨⟨λr c' h=>?_,λr q g hq h=>?_⟩,E⟩
 .by_cases g:r<A.length
  .rw[e9 g] at h
   have:=CO.ext E (a:=ι r) (λo' q=>by rw[bh (c5 q e)];exact q) c' (R.eS r c' h);show CO mg _ _ _ (if r=A.length then p else ι r) c';rw[aj (by omega)];exact this
  .have i:r=A.length:=by
    have:=(b6.mp h).1;simp at this;omega
   subst i;simp at h;subst h;show CO mg _ _ _ (if A.length=A.length then p else ι A.length) c;rw[ai rfl];simpa using hc
 .simp at g hq
  have h':(if r=A.length then p else ι r)=(if q=A.length then p else ι q):=h;by_cases h1:r=A.length
  .by_cases h2:q=A.length
   .rw[h1,h2]
   .rw[ai h1,aj h2] at h'
    obtain⟨u,d⟩:=tr q (by omega);rw[<-h',e] at d;cases d
  .by_cases h2:q=A.length
   .rw[aj h1,ai h2] at h'
    obtain⟨u,d⟩:=tr r (by omega);rw[h',e] at d;cases d
   .rw[aj h1,aj h2] at h'
    exact R.inj r q (by omega) (by omega) h'
theorem RA.put{r:Nat}{u o:HO}{c c':C}(R:RA mg ι H A)(g:A[r]?=some c)(l:H (ι r)=some u)(m:fB u=true)(hc:CO mg ι A.length (upd H (ι r) o) (ι r) c'):
  RA mg ι (upd H (ι r) o) (A.set r c')/\Ext A ι H (A.set r c') ι (upd H (ι r) o):=by
 have f:=(b6.mp g).1;have E:Ext A ι H (A.set r c') ι (upd H (ι r) o):=R.tM f;refine⟨⟨λq d h=>?_,λa b i j=>R.inj a b (by simpa using i) (by simpa using j)⟩,E⟩;by_cases hq:q=r
 .subst hq
  rw[lN f] at h;cases h;simpa using hc
 .rw[lM (Ne.symm hq)] at h
  have k:=(b6.mp h).1;have:=CO.ext E (a:=ι q) (λo' z=>by rw[bh (λe=>hq (R.inj q r k f e))];exact z) d (R.eS q d h);simpa using this
end
abbrev bw:=List (Option D)
def lk:bw->Nat->Option D
 |[],_=>none
 |x::_,0=>x
 |_::r,i+1=>lk r i
theorem mU:∀(τ:bw) (i:Nat),lk τ i=(τ[i]?).join
 |[],i=>by simp[lk]
 |x::r,0=>by simp[lk]
 |x::r,i+1=>by simp[lk,mU r i]
structure En where
 A:Ar
 ι:Io
 H:Hp
structure RS(mg:aq)(ι:Io)(n:Nat)(H:Hp)(τ:bw)(σ:L2.St):Prop where
 len:τ.length=σ.length
 at':∀i d,lk τ i=some d->∃v,σ[i]?=some (some v)/\RV mg ι n H d v
structure cC(mg:aq)(N:En)(A:Ar)(ι:Io)(τ:bw)(σ:L2.St)(H:Hp):Prop where
 ra:RA mg ι H A
 rs:RS mg ι A.length H τ σ
 ex:Ext N.A N.ι N.H A ι H
abbrev DK:=D->Ar->Prop
abbrev aM:=bw->Ar->DK->Prop
abbrev cX:=bw->Ar->(Bool->Ar->Prop)->Prop
abbrev cB:=bw->Ar->(List D->Ar->Prop)->Prop
def Kt(mg:aq)(A:Ar)(ι:Io)(H:Hp)(R:DK)(Q:VK):Prop:=∀v A' ι' H' u,R v A'->Ext A ι H A' ι' H'->RA mg ι' H' A'->RV mg ι' A'.length H' v u->Q u H'
def ja(mg:aq)(A:Ar)(ι:Io)(H:Hp)(R:Bool->Ar->Prop)(Q:Bool->Hp->Prop):Prop:=∀v A' ι' H',R v A'->Ext A ι H A' ι' H'->RA mg ι' H' A'->Q v H'
def xX(mg:aq)(A:Ar)(ι:Io)(H:Hp)(R:List D->Ar->Prop)(Q:List V->Hp->Prop):Prop:=∀v A' ι' H' u,R v A'->Ext A ι H A' ι' H'->RA mg ι' H' A'->ak mg ι' A'.length H' v u->Q u H'
def up(mg:aq)(N:En)(m:aM):TE:=λσ H Q=>∃A ι τ R,cC mg N A ι τ σ H/\m τ A R/\Kt mg A ι H R Q
def bZ(mg:aq)(N:En)(m:cX):TT:=λσ H Q=>∃A ι τ R,cC mg N A ι τ σ H/\m τ A R/\ja mg A ι H R Q
def eE(mg:aq)(N:En)(m:cB):TA:=λσ H Q=>∃A ι τ R,cC mg N A ι τ σ H/\m τ A R/\xX mg A ι H R Q
section
variable{mg:aq}{N:En}{A A':Ar}{ι ι':Io}{τ:bw}{σ:L2.St}{H H':Hp}
theorem RS.ext(e:Ext A ι H A' ι' H')(r:RS mg ι A.length H τ σ):RS mg ι' A'.length H' τ σ:=⟨r.len,λi d h=>by
 obtain⟨v,h1,h2⟩:=r.at' i d h;exact⟨v,h1,RV.ext e d v h2⟩⟩
theorem cC.next(S:cC mg N A ι τ σ H)(e:Ext A ι H A' ι' H')(r:RA mg ι' H' A'):cC mg N A' ι' τ σ H':=⟨r,S.rs.ext e,S.ex.trans e⟩
theorem Kt.from{R:DK}{Q:VK}(k:Kt mg A ι H R Q)(e:Ext A ι H A' ι' H'):Kt mg A' ι' H' R Q:=λv b a H2 u q c=>k v b a H2 u q (e.trans c)
theorem ja.from{R:Bool->Ar->Prop}{Q:Bool->Hp->Prop}(k:ja mg A ι H R Q)(e:Ext A ι H A' ι' H'):ja mg A' ι' H' R Q:=λv b a H2 q c=>k v b a H2 q (e.trans c)
theorem Kt.here{R:DK}{Q:VK}{d:D}{v:V}(k:Kt mg A ι H R Q)(r:RA mg ι H A)(q:R d A)(h:RV mg ι A.length H d v):Q v H:=k d A ι H v q r.refl r h
theorem ja.here{R:Bool->Ar->Prop}{Q:Bool->Hp->Prop}{b:Bool}(k:ja mg A ι H R Q)(r:RA mg ι H A)(q:R b A):Q b H:=k b A ι H q r.refl r
end
section
variable{X:Cx}{e:Expr}
theorem cZ{t t':TE}(h:PE X e t)(w:∀σ H Q,t' σ H Q->t σ H Q):PE X e t':=λpins s σ H Q I q=>h pins s σ H Q I (w σ H Q q)
theorem mw{t t':TT}(h:PT X e t)(w:∀σ H Q,t' σ H Q->t σ H Q):PT X e t':=λpins s σ H Q I q=>h pins s σ H Q I (w σ H Q q)
theorem s_{t t':TT}(h:PW X e t)(w:∀σ H Q,t' σ H Q->t σ H Q):PW X e t':=λwhole pins s σ H Q I q=>h whole pins s σ H Q I (w σ H Q q)
theorem sN{es:List Expr}{t t':TA}(h:PA X es t)(w:∀σ H Q,t' σ H Q->t σ H Q):PA X es t':=λpos pins s σ H Q I q=>h pos pins s σ H Q I (w σ H Q q)
theorem iG{st:Stmt}{t t':TS}(h:PS X st t)(w:∀D σ H,t' D σ H->t D σ H):PS X st t':=λpins s σ H D I q=>h pins s σ H D I (w D σ H q)
theorem s8{st:List Stmt}{t t':TS}(h:bY X st t)(w:∀D σ H,t' D σ H->t D σ H):bY X st t':=λpins s σ H D I q=>h pins s σ H D I (w D σ H q)
end
def o9(i:Nat):aM:=λτ A R=>match lk τ i with
 |some v=>R v A
 |none=>False
def dC(d:D):aM:=λ_ A R=>R d A
section
variable{X:Cx}{N:En}{pos:Pos}
theorem zD{i:Nat}{x:Str}(b:X.N[i]?=some x)(c:j4 X.env.scope x)(hd:(x==("__debug__":Str))=false:=by decide)(a:(x==("__classdict__":Str))=false:=by decide):PE X (.Name x pos) (up X.mg N (o9 i)):=
 cZ (DF b c hd a) λσ H Q h=>by
  obtain⟨A,ι,τ,R,S,h,k⟩:=h;unfold o9 at h;split at h
  .rename_i v e
   obtain⟨u,h1,h2⟩:=S.rs.at' i v e;exact⟨u,h1,k.here S.ra h h2⟩
  .exact h.elim
theorem mh{e:Expr}{d:D}{v:V}(h:PE X e (tC v))(r:∀ι n H,RV X.mg ι n H d v):PE X e (up X.mg N (dC d)):=
 cZ h λσ H Q h=>by
  obtain⟨A,ι,τ,R,S,h,k⟩:=h;exact k.here S.ra h (r _ _ _)
theorem ay{i j}:PE X (.Constant (.int i) j pos) (up X.mg N (dC (.int i))):=mh Du λ_ _ _=>rfl
theorem ji{b j}:PE X (.Constant (.bool b) j pos) (up X.mg N (dC (.bl b))):=mh Dh λ_ _ _=>rfl
theorem bJ{x j}:PE X (.Constant (.str x) j pos) (up X.mg N (dC (.str x))):=mh DC λ_ _ _=>rfl
theorem mj{x:Str}{i:Int}{t:Tok}(a:X.mg x=some (.int i t))(b:Gl X x:=by rfl)(hd:(x==("__debug__":Str))=false:=by decide):PE X (.Name x pos) (up X.mg N (dC (.int i))):=
 mh (Ds (v:=.int i) b a ⟨_,rfl⟩ hd) λ_ _ _=>rfl
end
abbrev c7:=D->D->Ar->DK->Prop
def cR(mg:aq)(r:R2)(f:c7):Prop:=∀x y A ι H u v R Q,RA mg ι H A->RV mg ι A.length H x u->RV mg ι A.length H y v->f x y A R->Kt mg A ι H R Q->r u v H Q
def dF(f:c7)(ma mb:aM):aM:=λτ A R=>ma τ A λx A1=>mb τ A1 λy A2=>f x y A2 R
section
variable{X:Cx}{N:En}{pos:Pos}{a b c:Expr}{ma mb mc:aM}{f f':c7}{r r':R2}
theorem nW(h:cR X.mg r f){σ:L2.St}{H:Hp}{Q:VK}(q:up X.mg N (dF f ma mb) σ H Q):lg r (up X.mg N ma) (up X.mg N mb) σ H Q:=by
 obtain⟨A,ι,τ,R,S,q,k⟩:=q;have q:ma τ A (λx a=>mb τ a λy b=>f x y b R):=q;refine⟨A,ι,τ,_,S,q,λx a c H1 u i e j l=>?_⟩;refine⟨a,c,τ,_,S.next e j,i,λy b d H2 v m g n v2=>?_⟩;exact h x y b d H2 u v R Q n (RV.ext g x u l) v2 m (k.from (e.trans g))
theorem kc{op:Operator}(c:aO X (binaryOp op) r)(hd:cR X.mg r f)(d:PE X a (up X.mg N ma))(e:PE X b (up X.mg N mb)):PE X (.BinOp a op b pos) (up X.mg N (dF f ma mb)):=
 cZ (Dz c d e) λ_ _ _ h=>nW hd h
theorem zw{op:CmpOp}(c:aO X (compareOp op) r)(hd:cR X.mg r f)(d:PE X a (up X.mg N ma))(e:PE X b (up X.mg N mb))(g:behindInMarks op b=false):PE X (.Compare a [op] [b] pos) (up X.mg N (dF f ma mb)):=
 cZ (Dn c d e g) λ_ _ _ h=>nW hd h
def gP(m:aM):cX:=λτ A R=>m τ A λx A1=>match x with
 |.bl k=>R k A1
 |_=>False
theorem qU{t:TE}{m:aM}(d:∀σ H Q,up X.mg N m σ H Q->t σ H Q){σ:L2.St}{H:Hp}{Q:Bool->Hp->Prop}(q:bZ X.mg N (gP m) σ H Q):qL t σ H Q:=by
 obtain⟨A,ι,τ,R,S,q,k⟩:=q;refine d _ _ _ ⟨A,ι,τ,_,S,q,λx e a H1 u c f g h=>?_⟩;cases x with
 |bl b=>exact⟨b,h,k b e a H1 c f g⟩
 |_=>exact c.elim
theorem pJ{op:CmpOp}(c:aO X (compareOp op) r)(hd:cR X.mg r f)(d:PE X a (up X.mg N ma))(e:PE X b (up X.mg N mb))(g:behindInMarks op b=false):PT X (.Compare a [op] [b] pos) (bZ X.mg N (gP (dF f ma mb))):=
 mw (D8 c d e g) λ_ _ _ h=>qU (λ_ _ _ h=>nW hd h) h
def j9(f f':c7)(ma mb mc:aM):aM:=λτ A R=>ma τ A λx A1=>mb τ A1 λy A2=>f x y A2 λz A3=>match z with
 |.bl k=>cond k (mc τ A3 λw A4=>f' y w A4 R) (R (.bl false) A3)
 |_=>False
theorem xu(h:cR X.mg r f)(h':cR X.mg r' f'){σ:L2.St}{H:Hp}{Q:VK}(q:up X.mg N (j9 f f' ma mb mc) σ H Q):qK r r' (up X.mg N ma) (up X.mg N mb) (up X.mg N mc) σ H Q:=by
 obtain⟨A,ι,τ,R,S,q,k⟩:=q;refine⟨A,ι,τ,_,S,q,λx s e H1 u t a m B=>?_⟩;refine⟨s,e,τ,_,S.next a m,t,λy C g H2 v D c n v2=>?_⟩;refine h x y C g H2 u v _ _ n (RV.ext c x u B) v2 D λz E i L w j d o F=>?_;cases z with
 |bl b=>
  refine⟨b,F,?_⟩;cases b with
  |true=>
   rw[ai rfl];refine⟨E,i,τ,_,((S.next a m).next c n).next d o,j,λz G l I w J p K v4=>?_⟩;exact h' y z G l I v w R Q K (RV.ext (d.trans p) y v v2) v4 J (k.from (((a.trans c).trans d).trans p))
  |false=>
   rw[aj b7];exact(k.from ((a.trans c).trans d)).here o j rfl
 |_=>exact j.elim
theorem zv{op d:CmpOp}(i:aO X (compareOp op) r)(e:aO X (compareOp d) r')(hd:cR X.mg r f)(g:cR X.mg r' f')(j:PE X a (up X.mg N ma))(k:PE X b (up X.mg N mb))(hc:PE X c (up X.mg N mc))
  (l:lastMarks [op,d] [b,c]=false:=by with_unfolding_all rfl):PE X (.Compare a [op,d] [b,c] pos) (up X.mg N (j9 f f' ma mb mc)):=
 cZ (Dm i e j k hc l) λ_ _ _ h=>xu hd g h
theorem zS{op d:CmpOp}(i:aO X (compareOp op) r)(e:aO X (compareOp d) r')(hd:cR X.mg r f)(g:cR X.mg r' f')(j:PE X a (up X.mg N ma))(k:PE X b (up X.mg N mb))(hc:PE X c (up X.mg N mc))
  (l:lastMarks [op,d] [b,c]=false:=by with_unfolding_all rfl):PT X (.Compare a [op,d] [b,c] pos) (bZ X.mg N (gP (j9 f f' ma mb mc))):=
 mw (D7 i e j k hc l) λ_ _ _ h=>qU (λ_ _ _ h=>xu hd g h) h
theorem gS{m:aM}(h:PE X a (up X.mg N m))(b:∀whole,isTrue a X.env whole=(do let v <-whole;standAt a.pos;holding [v] (truthy v)):=by intro _;rfl):PT X a (bZ X.mg N (gP m)):=
 mw (D_ h b) λ_ _ _ q=>qU (λ_ _ _ h=>h) q
def yW(t u:cX):cX:=λτ A R=>t τ A λc A1=>cond c (u τ A1 R) (R false A1)
def zd(t u:cX):cX:=λτ A R=>t τ A λc A1=>cond c (R true A1) (u τ A1 R)
def zc(t:cX):cX:=λτ A R=>t τ A λc A1=>R (!c) A1
variable{tA tB:cX}{rest:List Expr}
theorem zU(b:PT X a (bZ X.mg N tA)):PW X (.BoolOp .And [a] pos) (bZ X.mg N tA):=pw_and1 b
theorem iH(b:PT X a (bZ X.mg N tA)):PW X (.BoolOp .Or [a] pos) (bZ X.mg N tA):=pw_or1 b
theorem zT(g:PT X a (bZ X.mg N tA))(h:PW X (.BoolOp .And (b::rest) pos) (bZ X.mg N tB)):PW X (.BoolOp .And (a::b::rest) pos) (bZ X.mg N (yW tA tB)):=
 s_ (pw_and g h) λσ H Q q=>by
  obtain⟨A,ι,τ,R,S,q,k⟩:=q;refine⟨A,ι,τ,_,S,q,λx i c H1 e d f=>?_⟩;cases x with
  |true=>rw[ai rfl];exact⟨i,c,τ,_,S.next d f,e,k.from d⟩
  |false=>rw[aj b7];exact(k.from d).here f e
theorem gh(g:PT X a (bZ X.mg N tA))(h:PW X (.BoolOp .Or (b::rest) pos) (bZ X.mg N tB)):PW X (.BoolOp .Or (a::b::rest) pos) (bZ X.mg N (zd tA tB)):=
 s_ (pw_or g h) λσ H Q q=>by
  obtain⟨A,ι,τ,R,S,q,k⟩:=q;refine⟨A,ι,τ,_,S,q,λx i c H1 e d f=>?_⟩;cases x with
  |true=>rw[ai rfl];exact(k.from d).here f e
  |false=>rw[aj b7];exact⟨i,c,τ,_,S.next d f,e,k.from d⟩
theorem gR(b:PT X a (bZ X.mg N tA)):PT X (.UnaryOp .Not a pos) (bZ X.mg N (zc tA)):=
 mw (D9 b) λσ H Q q=>by
  obtain⟨A,ι,τ,R,S,q,k⟩:=q;exact⟨A,ι,τ,_,S,q,λx g c H1 d e f=>(k.from e).here f d⟩
def yX(ma mb:aM):aM:=λτ A R=>ma τ A λx A1=>match x with
 |.bl c=>cond c (mb τ A1 R) (R (.bl false) A1)
 |_=>False
theorem pC{op}(h:PE X a (up X.mg N ma)):PE X (.BoolOp op [a] pos) (up X.mg N ma):=Dy h
theorem pe(h:PE X a (up X.mg N ma))(i:PE X (.BoolOp .And (b::rest) pos) (up X.mg N mb)):PE X (.BoolOp .And (a::b::rest) pos) (up X.mg N (yX ma mb)):=
 cZ (Dg h i) λσ H Q q=>by
  obtain⟨A,ι,τ,R,S,q,k⟩:=q;refine⟨A,ι,τ,_,S,q,λx j d H1 u e f g l=>?_⟩;cases x with
  |bl c=>
   refine⟨c,l,?_⟩;cases c with
   |true=>rw[ai rfl];exact⟨j,d,τ,_,S.next f g,e,k.from f⟩
   |false=>rw[aj b7];exact(k.from f).here g e rfl
  |_=>exact e.elim
def y9(t:cX)(ma mb:aM):aM:=λτ A R=>t τ A λc A1=>cond c (ma τ A1 R) (mb τ A1 R)
theorem zy(hc:PT X c (bZ X.mg N tA))(i:PE X a (up X.mg N ma))(j:PE X b (up X.mg N mb)):PE X (.IfExp c a b pos) (up X.mg N (y9 tA ma mb)):=
 cZ (Dt hc i j) λσ H Q q=>by
  obtain⟨A,ι,τ,R,S,q,k⟩:=q;refine⟨A,ι,τ,_,S,q,λx f d H1 g e h=>?_⟩;cases x with
  |true=>rw[ai rfl];exact⟨f,d,τ,_,S.next e h,g,k.from e⟩
  |false=>rw[aj b7];exact⟨f,d,τ,_,S.next e h,g,k.from e⟩
end
def zb:cB:=λ_ A R=>R [] A
def yY(m:aM)(n:cB):cB:=λτ A R=>m τ A λx A1=>n τ A1 λxs A2=>R (x::xs) A2
def zf(n:cB):aM:=λτ A R=>n τ A λxs A1=>xs.length<=sizeLine/\R (.tup xs) A1
def y_(n:cB):aM:=λτ A R=>n τ A λxs A1=>xs.length<=sizeLine/\R (.ref A1.length) (A1++[.lst xs])
section
variable{X:Cx}{N:En}{pos:Pos}{e:Expr}{es:List Expr}{m:aM}{n:cB}
theorem av:PA X [] (eE X.mg N zb):=sN vo λσ H Q q=>by
 obtain⟨A,ι,τ,R,S,q,k⟩:=q;exact k [] A ι H [] q S.ra.refl S.ra rfl
theorem af(f:PE X e (up X.mg N m))(g:PA X es (eE X.mg N n))(hs:starEach (e::es) X.env=(false,eval e X.env)::starEach es X.env:=by rfl):PA X (e::es) (eE X.mg N (yY m n)):=
 sN (qw f g hs) λσ H Q q=>by
  obtain⟨A,ι,τ,R,S,q,k⟩:=q;refine⟨A,ι,τ,_,S,q,λx h a H1 u i c j l=>?_⟩;refine⟨h,a,τ,_,S.next c j,i,λy o b H2 v p d r v2=>?_⟩;exact k _ o b H2 _ p (c.trans d) r ⟨u,v,rfl,RV.ext d x u l,v2⟩
theorem qm{mg:aq}{A:Ar}{ι:Io}{H:Hp}{R:DK}{Q:VK}{ds:List D}{xs:List V}{p:Addr}(k:Kt mg A ι H R Q)(r:RA mg ι H A)(h:ak mg ι A.length H ds xs)(q:R (.tup ds) A)(a:H p=none):Q (.ref p) (upd H p (.tup xs)):=by
 have E:Ext A ι H A ι (upd H p (.tup xs)):=r.tK a;exact k _ A ι _ _ q E (r.fix E λb o z=>by rw[bh (c5 z a)];exact z) ⟨p,xs,rfl,gZ,ak.ext E ds xs h⟩
theorem m8{mg:aq}{A:Ar}{ι:Io}{H:Hp}{R:DK}{Q:VK}{ds:List D}{xs:List V}{p:Addr}(k:Kt mg A ι H R Q)(r:RA mg ι H A)(h:ak mg ι A.length H ds xs)(q:R (.ref A.length) (A++[.lst ds]))(a:H p=none):Q (.ref p) (upd H p (.lst xs)):=by
 have E:Ext A ι H (A++[.lst ds]) (λr=>if r=A.length then p else ι r) (upd H p (.lst xs)):=r.tL a;obtain⟨b,d⟩:=r.push (c:=.lst ds) (o:=.lst xs) a ⟨xs,gZ,by simpa using ak.ext E ds xs h⟩;refine k _ _ _ _ _ q d b ⟨by simp,?_⟩;show V.ref p=V.ref (if A.length=A.length then p else ι A.length);rw[ai rfl]
theorem fN{c}(h:PA X es (eE X.mg N n)):PE X (.Tuple es c pos) (up X.mg N (zf n)):=cZ (DE h) λσ H Q q=>by
 obtain⟨A,ι,τ,R,S,q,k⟩:=q;refine⟨A,ι,τ,_,S,q,λx i d H1 u a e f b=>?_⟩;exact⟨by rw[<-ak.length b];exact a.1,λp g=>qm (k.from e) f b a.2 g⟩
theorem fy(h:PA X es (eE X.mg N n)):PE X (.List es pos) (up X.mg N (y_ n)):=cZ (Dw h) λσ H Q q=>by
 obtain⟨A,ι,τ,R,S,q,k⟩:=q;refine⟨A,ι,τ,_,S,q,λx g c H1 u a d e b=>?_⟩;exact⟨by rw[<-ak.length b];exact a.1,λp f=>m8 (k.from d) e b a.2 f⟩
end
section
variable{mg:aq}{K:Frag}{A:Ar}{ι:Io}{H:Hp}
theorem RA.lst(r:RA mg ι H A){q:Nat}{ds:List D}(h:A[q]?=some (.lst ds)):∃xs,H (ι q)=some (.lst xs)/\ak mg ι A.length H ds xs:=r.eS q _ h
theorem RA.dct(r:RA mg ι H A){q:Nat}{ds:List (Key×D)}(h:A[q]?=some (.dct ds)):∃xs,H (ι q)=some (.dK xs)/\RK mg ι A.length H ds xs:=r.eS q _ h
theorem RA.gU(r:RA mg ι H A){q:Nat}{o:Obj}{ds:List (Key×D)}(h:A[q]?=some (.gU o ds)):∃xs,H (ι q)=some (.bR o (.dK xs))/\RK mg ι A.length H ds xs:=r.eS q _ h
theorem ak.ints:∀(ns:List Int) {n:Nat},ak mg ι n H (ns.map D.int) (ns.map V.int)
 |[],_=>rfl
 |i::r,n=>⟨_,_,rfl,rfl,ak.ints r⟩
theorem ak.u6{n:Nat}{ds:List D}(h:ak mg ι n H ds []):ds=[]:=by
 cases ds with
 |nil=>rfl
 |cons d r=>obtain⟨x,r,e,_⟩:=h;cases e
end
abbrev vG(K:Frag):R2:=λx y H Q=>fU (λi j=>.int (i+j)) x y H Q\/(∃i j,x=.str i/\y=.str j/\i.length+j.length<=sizeLine/\Q (.str (i++j)) H)\/vJ K x y H Q\/vI x y H Q
theorem CL{X:Cx}:aO X (binaryOp .Add) (vG X.K):=CW.or (CY.or (C0.or CZ))
@[irreducible] def sy(r q:Nat)(A:Ar)(R:DK):Prop:=match A[r]?,A[q]? with
 |some (.lst xs),some (.lst ys)=>xs.length+ys.length<=sizeLine/\R (.ref A.length) (A++[.lst (xs++ys)])
 |_,_=>False
def oR:c7:=λx y A R=>match x,y with
 |.int i,.int j=>R (.int (i+j)) A
 |.str a,.str b=>a.length+b.length<=sizeLine/\R (.str (a++b)) A
 |.tup xs,.tup ys=>xs.length+ys.length<=sizeLine/\R (.tup (xs++ys)) A
 |.ref r,.ref q=>sy r q A R
 |_,_=>False
theorem zg{mg:aq}{K:Frag}:cR mg (vG K) oR:=by
 intro x y A ι H u v R Q ra e f h k;unfold oR at h;split at h
 .cases e;cases f
  exact .inl ⟨_,_,rfl,rfl,k.here ra h rfl⟩
 .cases e;cases f
  exact .inr (.inl ⟨_,_,rfl,rfl,h.1,k.here ra h.2 rfl⟩)
 .obtain⟨a,xs,rfl,g,c⟩:=e
  obtain⟨b,ys,rfl,i,d⟩:=f;refine .inr (.inr (.inl ⟨a,b,xs,ys,rfl,rfl,bg.of g,bg.of i,by rw[<-ak.length c,<-ak.length d];exact h.1,λz=>?_,λ_ z=>?_,λ_ _ p j=>qm k ra (c.app d) h.2 j⟩))
  .subst z
   obtain rfl:=ak.u6 c;exact k.here ra h.2 ⟨b,ys,rfl,i,d⟩
  .subst z
   obtain rfl:=ak.u6 d;exact k.here ra h.2 ⟨a,xs,rfl,g,by rw[e8];exact c⟩
 .rename_i r q
  unfold sy at h;split at h
  .rename_i xs ys g i
   obtain⟨l,h1,c⟩:=ra.lst g;obtain⟨vs,h2,d⟩:=ra.lst i;obtain⟨_,rfl⟩:=e;obtain⟨_,rfl⟩:=f;exact .inr (.inr (.inr ⟨_,_,l,vs,rfl,rfl,h1,h2,by rw[<-ak.length c,<-ak.length d];exact h.1,λp j=>m8 k ra (c.app d) h.2 j⟩))
  .exact h.elim
 .exact h.elim
def intD(C:Int->Int->Prop)(g:Int->Int->D):c7:=λx y A R=>match x,y with
 |.int i,.int j=>C i j/\R (g i j) A
 |_,_=>False
def pX(g:Int->Int->D):c7:=λx y A R=>match x,y with
 |.int i,.int j=>R (g i j) A
 |_,_=>False
theorem o_{mg:aq}{C:Int->Int->Prop}{g:Int->Int->V}{g':Int->Int->D}(a:∀i j ι n H,RV mg ι n H (g' i j) (g i j)):cR mg (rI C g) (intD C g'):=by
 intro x y A ι H u v R Q ra b c h k;unfold intD at h;split at h
 .cases b;cases c
  exact⟨_,_,rfl,rfl,h.1,k.here ra h.2 (a _ _ _ _ _)⟩
 .exact h.elim
theorem zl{mg:aq}{g:Int->Int->V}{g':Int->Int->D}(a:∀i j ι n H,RV mg ι n H (g' i j) (g i j)):cR mg (fU g) (pX g'):=by
 intro x y A ι H u v R Q ra b c h k;unfold pX at h;split at h
 .cases b;cases c
  exact⟨_,_,rfl,rfl,k.here ra h (a _ _ _ _ _)⟩
 .exact h.elim
abbrev Fe:c7:=pX λi j=>.int (i - j)
abbrev Cs:c7:=intD jR λi j=>.int (i*j)
abbrev Cq:c7:=intD (λ_ j=>0<j) λi j=>.int (i%j)
abbrev DT:c7:=intD rj λi j=>.int (i ^ j.toNat)
section
variable{X:Cx}{N:En}{pos:Pos}{a b c:Expr}{ma mb mc:aM}
theorem jh(c:PE X a (up X.mg N ma))(d:PE X b (up X.mg N mb)):PE X (.BinOp a .Add b pos) (up X.mg N (dF oR ma mb)):=kc CL zg c d
theorem mq(c:PE X a (up X.mg N ma))(d:PE X b (up X.mg N mb)):PE X (.BinOp a .Sub b pos) (up X.mg N (dF Fe ma mb)):=kc Df (zl λ_ _ _ _ _=>rfl) c d
theorem jk(c:PE X a (up X.mg N ma))(d:PE X b (up X.mg N mb)):PE X (.BinOp a .Mult b pos) (up X.mg N (dF Cs ma mb)):=kc C_ (o_ λ_ _ _ _ _=>rfl) c d
theorem jj(c:PE X a (up X.mg N ma))(d:PE X b (up X.mg N mb)):PE X (.BinOp a .Mod b pos) (up X.mg N (dF Cq ma mb)):=kc C9 (o_ λ_ _ _ _ _=>rfl) c d
theorem zA(c:PE X a (up X.mg N ma))(d:PE X b (up X.mg N mb)):PE X (.BinOp a .Pow b pos) (up X.mg N (dF DT ma mb)):=kc De (o_ λ_ _ _ _ _=>rfl) c d
end
abbrev vS:R2:=λx y H Q=>fU (λi j=>.bl (decide (i<j))) x y H Q\/∃i j,x=.str i/\y=.str j/\Q (.bl (decide (i.cps.toList<j.cps.toList))) H
abbrev vR:R2:=λx y H Q=>fU (λi j=>.bl (decide (i<=j))) x y H Q\/∃i j,x=.str i/\y=.str j/\Q (.bl (!decide (j.cps.toList<i.cps.toList))) H
theorem CM{X:Cx}:aO X (compareOp .Lt) vS:=C7.or C8
theorem nh{X:Cx}:aO X (compareOp .LtE) vR:=C5.or C6
def qg:c7:=λx y A R=>match x,y with
 |.int i,.int j=>R (.bl (decide (i<j))) A
 |.str a,.str b=>R (.bl (decide (a.cps.toList<b.cps.toList))) A
 |_,_=>False
def jv:c7:=λx y A R=>match x,y with
 |.int i,.int j=>R (.bl (decide (i<=j))) A
 |.str a,.str b=>R (.bl (!decide (b.cps.toList<a.cps.toList))) A
 |_,_=>False
theorem zo{mg:aq}:cR mg vS qg:=by
 intro x y A ι H u v R Q ra a b h k;unfold qg at h;split at h
 .cases a;cases b;exact .inl ⟨_,_,rfl,rfl,k.here ra h rfl⟩
 .cases a;cases b;exact .inr ⟨_,_,rfl,rfl,k.here ra h rfl⟩
 .exact h.elim
theorem l_{mg:aq}:cR mg vR jv:=by
 intro x y A ι H u v R Q ra a b h k;unfold jv at h;split at h
 .cases a;cases b;exact .inl ⟨_,_,rfl,rfl,k.here ra h rfl⟩
 .cases a;cases b;exact .inr ⟨_,_,rfl,rfl,k.here ra h rfl⟩
 .exact h.elim
mutual
def toQ:D->PyData
 |.aJ=>.none
 |.bl b=>.bool b
 |.int i=>.int i
 |.str x=>.str x
 |.tup xs=>.tuple (b_ xs)
 |.ref _=>.none
 |.fl ns=>.list (ns.map .int)
 |.exc _=>.none
def b_:List D->List PyData
 |[]=>[]
 |d::r=>toQ d::b_ r
end
mutual
def dI:D->Bool
 |.tup xs=>gY xs
 |.ref _=>false
 |.exc _=>false
 |_=>true
def gY:List D->Bool
 |[]=>true
 |d::r=>dI d&&gY r
end
def dM(A:Ar):D->PyData
 |.ref r=>match A[r]? with
  |some (.lst xs)=>.list (b_ xs)
  |_=>.none
 |d=>toQ d
def jy(A:Ar):D->Bool
 |.ref r=>match A[r]? with
  |some (.lst xs)=>gY xs
  |_=>false
 |d=>dI d
section
variable{mg:aq}{K:Frag}{A:Ar}{ι:Io}{H:Hp}
theorem zP:∀ns:List Int,c8 K H (ns.map V.int) (ns.map PyData.int):=c8.ints
mutual
theorem RV.dp{n:Nat}:∀(d:D) (v:V),dI d=true->RV mg ι n H d v->Dp K H v (toQ d)
 |.aJ,_,_,h=>by cases h;exact .aJ
 |.bl b,_,_,h=>by cases h;exact .bl b
 |.int i,_,_,h=>by cases h;exact .int i
 |.str x,_,_,h=>by cases h;exact .str x
 |.tup ds,v,p,h=>by
  obtain⟨a,xs,rfl,e,r⟩:=h;exact .tup (bg.of e) (ak.dp ds xs (by simpa[dI] using p) r)
 |.ref _,_,p,_=>by simp[dI] at p
 |.fl ns,v,_,h=>by
  obtain⟨a,o,rfl,e⟩:=h;exact .lst (.inl (.inr ⟨o,e⟩)) (zP ns)
 |.exc _,_,p,_=>by simp[dI] at p
theorem ak.dp{n:Nat}:∀(ds:List D) (vs:List V),gY ds=true->ak mg ι n H ds vs->c8 K H vs (b_ ds)
 |[],vs,_,h=>by cases (show vs=[] from h);exact .nil
 |d::ds,vs,p,h=>by
  obtain⟨x,r,rfl,h1,h2⟩:=h;have a:dI d=true/\gY ds=true:=by simpa[gY] using p
  exact .cons (RV.dp d x a.1 h1) (ak.dp ds r a.2 h2)
end
theorem RA.dp(ra:RA mg ι H A){d:D}{v:V}(p:jy A d=true)(h:RV mg ι A.length H d v):Dp K H v (dM A d):=by
 cases d with
 |ref r=>
  obtain⟨_,rfl⟩:=h;unfold jy at p;unfold dM;simp only at p ⊢;split at p
  .rename_i xs e
   obtain⟨a,h1,b⟩:=ra.lst e;exact .lst (aX.of h1) (ak.dp xs a p b)
  .cases p
 |_=>exact RV.dp _ v p h
end
@[irreducible] def fM(neg:Bool)(x y:D)(A:Ar)(R:DK):Prop:=jy A x=true/\jy A y=true/\(dM A x).canLay0=true/\(dM A y).canLay0=true/\min (dM A x).depth (dM A y).depth<=64/\R (.bl (if neg then !PyData.eqv (dM A x) (dM A y) else PyData.eqv (dM A x) (dM A y))) A
def ko:c7:=λx y A R=>match x,y with
 |.int i,.int j=>R (.bl (decide (i=j))) A
 |.str a,.str b=>R (.bl (decide (a=b))) A
 |.bl a,.bl b=>R (.bl (decide (a=b))) A
 |x,y=>fM false x y A R
def m7:c7:=λx y A R=>match x,y with
 |.int i,.int j=>R (.bl (!decide (i=j))) A
 |.str a,.str b=>R (.bl (!decide (a=b))) A
 |.bl a,.bl b=>R (.bl (!decide (a=b))) A
 |x,y=>fM true x y A R
theorem vd{X:Cx}(a:X.A.units+64<cLine):aO X (compareOp .Eq) (λx y H Q=>qA x y H Q\/qB X.K x y H Q):=C3.or (C4 a)
theorem CN{X:Cx}(a:X.A.units+64<cLine):aO X (compareOp .NotEq) (λx y H Q=>qC x y H Q\/qD X.K x y H Q):=Dc.or (Dd a)
theorem sM{mg:aq}{K:Frag}:cR mg (λx y H Q=>qA x y H Q\/qB K x y H Q) ko:=by
 intro x y A ι H u v R Q ra a b h k;unfold ko at h;split at h
 .cases a;cases b
  rename_i i j;refine .inl ⟨rfl,?_⟩;have e:decide (V.int i=V.int j)=decide (i=j):=by simp
  rw[e];exact k.here ra h rfl
 .cases a;cases b
  rename_i i j;refine .inl ⟨rfl,?_⟩;have e:decide (V.str i=V.str j)=decide (i=j):=by simp
  rw[e];exact k.here ra h rfl
 .cases a;cases b
  rename_i i j;refine .inl ⟨rfl,?_⟩;have e:decide (V.bl i=V.bl j)=decide (i=j):=by simp
  rw[e];exact k.here ra h rfl
 .unfold fM at h
  obtain⟨p1,p2,c,d,hd,q⟩:=h;exact .inr ⟨_,_,ra.dp p1 a,ra.dp p2 b,c,d,hd,k.here ra q rfl⟩
theorem zq{mg:aq}{K:Frag}:cR mg (λx y H Q=>qC x y H Q\/qD K x y H Q) m7:=by
 intro x y A ι H u v R Q ra a b h k;unfold m7 at h;split at h
 .cases a;cases b
  rename_i i j;refine .inl ⟨rfl,?_⟩;have e:decide (V.int i=V.int j)=decide (i=j):=by simp
  rw[e];exact k.here ra h rfl
 .cases a;cases b
  rename_i i j;refine .inl ⟨rfl,?_⟩;have e:decide (V.str i=V.str j)=decide (i=j):=by simp
  rw[e];exact k.here ra h rfl
 .cases a;cases b
  rename_i i j;refine .inl ⟨rfl,?_⟩;have e:decide (V.bl i=V.bl j)=decide (i=j):=by simp
  rw[e];exact k.here ra h rfl
 .unfold fM at h
  obtain⟨p1,p2,c,d,hd,q⟩:=h;exact .inr ⟨_,_,ra.dp p1 a,ra.dp p2 b,c,d,hd,k.here ra q rfl⟩
def p5:D->Option Key
 |.int i=>some (.inl i)
 |.str x=>some (.inr x)
 |_=>none
def iJ:List (Key×D)->Key->Option D
 |[],_=>none
 |p::r,k=>if p.1=k then some p.2 else iJ r k
@[irreducible] def kD(r:Nat)(y:D)(A:Ar)(R:DK):Prop:=match A[r]? with
 |some (.lst xs)=>(match y with
  |.int i=>(match bK xs i with
   |some v=>R v A
   |none=>False)
  |_=>False)
 |some (.dct kvs)=>(match p5 y with
  |some k=>(match iJ kvs k with
   |some v=>R v A
   |none=>False)
  |none=>False)
 |some (.gU _ kvs)=>(match p5 y with
  |some k=>(match iJ kvs k with
   |some v=>R v A
   |none=>False)
  |none=>False)
 |_=>False
def kC:c7:=λx y A R=>match x,y with
 |.tup xs,.int i=>match bK xs i with
  |some v=>R v A
  |none=>False
 |.str z,.int i=>match bK z.cps.toList i with
  |some c=>z.length<=sizeLine/\R (.str ⟨#[c]⟩) A
  |none=>False
 |.fl ns,.int i=>match bK ns i with
  |some c=>R (.int c) A
  |none=>False
 |.ref r,y=>kD r y A R
 |_,_=>False
section
variable{mg:aq}{K:Frag}{A:Ar}{ι:Io}{H:Hp}
theorem ak.bK{n:Nat}{ds:List D}{vs:List V}{i:Int}{d:D}(r:ak mg ι n H ds vs)(h:L2.bK ds i=some d):∃v,L2.bK vs i=some v/\RV mg ι n H d v:=by
 unfold L2.bK at h ⊢;rw[<-ak.length r];cases q:gn ds.length i with
 |none=>rw[q] at h;cases h
 |some j=>
  rw[q] at h;exact ak.get r h
theorem yd{α β:Type}(f:α->β)(xs:List α)(i:Int):L2.bK (xs.map f) i=(L2.bK xs i).map f:=by
 unfold L2.bK;rw[bA];cases gn xs.length i with
 |none=>rfl
 |some j=>simp
theorem RK.get{n:Nat}:∀{kvs:List (Key×D)} {xs:List (Key×V)} {k:Key},RK mg ι n H kvs xs->(∀d,iJ kvs k=some d->∃v,dc xs k=some v/\RV mg ι n H d v)/\(iJ kvs k=none->dc xs k=none)
 |[],xs,k,h=>by
  cases (show xs=[] from h);exact⟨λd e=>by simp[iJ] at e,λ_=>rfl⟩
 |p::r,xs,k,h=>by
  obtain⟨x,r',rfl,h1,h2⟩:=h;obtain⟨g1,g2⟩:=RK.get (k:=k) h2;unfold iJ;by_cases hk:p.1=k
  .rw[ai hk]
   have e:dc ((p.1,x)::r') k=some x:=by simp[dc,hk]
   rw[e];exact⟨λd z=>by cases z;exact⟨x,rfl,h1⟩,λz=>by cases z⟩
  .rw[aj hk]
   have e:dc ((p.1,x)::r') k=dc r' k:=by simp[dc,iX,hk]
   rw[e];exact⟨g1,g2⟩
theorem uz{n:Nat}{y:D}{v:V}{k:Key}(h:p5 y=some k)(r:RV mg ι n H y v):v=kV k:=by
 cases y with
 |int i=>cases h;exact r
 |str x=>cases h;exact r
 |_=>cases h
end
def vN:R2:=λx y H Q=>∃a v,x=.ref a/\oF H a y (some v)/\Q v H
theorem Bu{X:Cx}(f:X.A.units+64<cLine):fh X vN:=by
 intro value slice pins s σ H x y v u Q I c d h hs;obtain⟨a,z,rfl,g,q⟩:=h;cases c;exact tail_any (zJ I g) PySem.F.slot_dict_getitem.lookup (zk (by omega) I g d λi j e b=>⟨z,H,e,b,q⟩) hs
abbrev vM(K:Frag):R2:=λx y H Q=>vL K x y H Q\/vN x y H Q
theorem Bh{X:Cx}(a:X.A.units+64<cLine):fh X (vM X.K):=Bw.or (Bu a)
theorem zm{mg:aq}{K:Frag}:cR mg (vM K) kC:=by
 intro x y A ι H u v R Q ra j g h k;unfold kC at h;split at h
 .obtain⟨a,xs,rfl,l,b⟩:=j
  cases g;split at h
  .rename_i d e
   obtain⟨z,c,f⟩:=b.bK e;exact .inl (.inr (.inl ⟨a,xs,_,z,rfl,rfl,bg.of l,c,k.here ra h f⟩))
  .exact h.elim
 .cases j;cases g
  split at h
  .rename_i d e
   exact .inl (.inr (.inr ⟨_,_,_,rfl,rfl,h.1,e,k.here ra h.2 rfl⟩))
  .exact h.elim
 .obtain⟨a,o,rfl,l⟩:=j
  cases g;split at h
  .rename_i d e
   exact .inl (.inl ⟨a,_,_,_,rfl,rfl,.inl (.inr ⟨o,l⟩),by rw[yd,e];rfl,k.here ra h rfl⟩)
  .exact h.elim
 .obtain⟨_,rfl⟩:=j
  unfold kD at h;split at h
  .rename_i xs e
   obtain⟨i,h1,b⟩:=ra.lst e;split at h
   .cases g
    split at h
    .rename_i d e
     obtain⟨z,c,f⟩:=b.bK e;exact .inl (.inl ⟨_,i,_,z,rfl,rfl,aX.of h1,c,k.here ra h f⟩)
    .exact h.elim
   .exact h.elim
  .rename_i kvs e
   obtain⟨i,h1,b⟩:=ra.dct e;split at h
   .rename_i m n
    cases uz n g;split at h
    .rename_i d p
     obtain⟨z,c,f⟩:=(RK.get b).1 d p;exact .inr ⟨_,z,rfl,.inl ⟨i,m,.inl h1,rfl,c.symm⟩,k.here ra h f⟩
    .exact h.elim
   .exact h.elim
  .rename_i o kvs e
   obtain⟨i,h1,b⟩:=ra.gU e;split at h
   .rename_i m n
    cases uz n g;split at h
    .rename_i d p
     obtain⟨z,c,f⟩:=(RK.get b).1 d p;exact .inr ⟨_,z,rfl,.inl ⟨i,m,.inr ⟨o,h1⟩,rfl,c.symm⟩,k.here ra h f⟩
    .exact h.elim
   .exact h.elim
  .exact h.elim
 .exact h.elim
theorem zz{X:Cx}{N:En}{pos:Pos}{a b:Expr}{ma mb:aM}(c:X.A.units+64<cLine)(d:PE X a (up X.mg N ma))(e:PE X b (up X.mg N mb))(hs:oM b):PE X (.Subscript a b pos) (up X.mg N (dF kC ma mb)):=
 cZ (Dv (Bh c) d e hs) λ_ _ _ h=>nW zm h
structure jT where
 nx:bw->Ar->Prop
 rt:DK
 bk:bw->Ar->Prop:=λ_ _=>False
 ct:bw->Ar->Prop:=λ_ _=>False
abbrev cW:=jT->bw->Ar->Prop
def gc(mg:aq)(A:Ar)(ι:Io)(H:Hp)(R:bw->Ar->Prop)(Q:L2.St->Hp->Prop):Prop:=∀τ A' ι' σ H',R τ A'->Ext A ι H A' ι' H'->RA mg ι' H' A'->RS mg ι' A'.length H' τ σ->Q σ H'
structure lR(mg:aq)(A:Ar)(ι:Io)(H:Hp)(R:jT)(Q:Ends):Prop where
 nx:gc mg A ι H R.nx Q.nx
 rt:Kt mg A ι H R.rt Q.rt
 bk:gc mg A ι H R.bk Q.bk
 ct:gc mg A ι H R.ct Q.ct
def cj(mg:aq)(N:En)(m:cW):TS:=λQ σ H=>∃A ι τ R,cC mg N A ι τ σ H/\m R τ A/\lR mg A ι H R Q
section
variable{mg:aq}{N:En}{A A':Ar}{ι ι':Io}{τ dN:bw}{σ σ':L2.St}{H H':Hp}
theorem gc.from{R:bw->Ar->Prop}{Q:L2.St->Hp->Prop}(k:gc mg A ι H R Q)(e:Ext A ι H A' ι' H'):gc mg A' ι' H' R Q:=λτ b a σ H2 q c=>k τ b a σ H2 q (e.trans c)
theorem lR.from{R:jT}{Q:Ends}(k:lR mg A ι H R Q)(e:Ext A ι H A' ι' H'):lR mg A' ι' H' R Q:=⟨k.nx.from e,k.rt.from e,k.bk.from e,k.ct.from e⟩
theorem gc.here{R:bw->Ar->Prop}{Q:L2.St->Hp->Prop}(k:gc mg A ι H R Q)(S:cC mg N A ι τ σ H)(q:R τ A):Q σ H:=k τ A ι σ H q S.ra.refl S.ra S.rs
theorem cC.to(S:cC mg N A ι τ σ H)(e:Ext A ι H A' ι' H')(r:RA mg ι' H' A')(s:RS mg ι' A'.length H' dN σ'):cC mg N A' ι' dN σ' H':=⟨r,s,S.ex.trans e⟩
theorem uO:∀(τ:bw) (i:Nat) (d:D),i<τ.length->lk (τ.set i (some d)) i=some d
 |[],i,d,h=>by simp at h
 |x::r,0,d,_=>rfl
 |x::r,i+1,d,h=>uO r i d (by simpa using h)
theorem uN:∀(τ:bw) (i j:Nat) (d:Option D),j≠i->lk (τ.set i d) j=lk τ j
 |[],i,j,d,_=>rfl
 |x::r,0,0,d,h=>absurd rfl h
 |x::r,0,j+1,d,_=>rfl
 |x::r,i+1,0,d,_=>rfl
 |x::r,i+1,j+1,d,h=>uN r i j d (by omega)
theorem RS.set{n:Nat}{i:Nat}{d:D}{v:V}(r:RS mg ι n H τ σ)(h:RV mg ι n H d v):RS mg ι n H (τ.set i (some d)) (σ.set i (some v)):=⟨by simp[r.len],λj e q=>by
 by_cases a:j=i
 .subst a
  by_cases b:j<τ.length
  .rw[uO _ _ _ b] at q
   cases q;refine⟨v,?_,h⟩;rw[lN (by rw[<-r.len];exact b)]
  .rw[List.set_eq_of_length_le (by omega)] at q
   rw[mU,qY (by omega)] at q;cases q
 .rw[uN _ _ _ _ a] at q
  obtain⟨w,h1,h2⟩:=r.at' j e q;exact⟨w,by rw[lM (Ne.symm a)];exact h1,h2⟩⟩
theorem cC.set{i:Nat}{d:D}{v:V}(S:cC mg N A ι τ σ H)(h:RV mg ι A.length H d v):cC mg N A ι (τ.set i (some d)) (σ.set i (some v)) H:=⟨S.ra,S.rs.set h,S.ex⟩
end
def Es:cW:=λR τ A=>R.nx τ A
def Ex(t u:cW):cW:=λR τ A=>t {R with nx:=u R} τ A
def El(m:aM):cW:=λR τ A=>m τ A λ_ A1=>R.nx τ A1
def Ew(m:aM):cW:=λR τ A=>m τ A R.rt
def Eo(c:cX)(t u:cW):cW:=λR τ A=>c τ A λb A1=>cond b (t R τ A1) (u R τ A1)
section
variable{X:Cx}{N:En}{pos:Pos}{st:Stmt}{rest:List Stmt}{t u:cW}{e:Expr}{m:aM}
theorem cT:bY X [] (cj X.mg N Es):=s8 D5 λQ σ H q=>by
 obtain⟨A,ι,τ,R,S,q,k⟩:=q;exact k.nx.here S q
theorem aZ(h1:PS X st (cj X.mg N t))(h2:bY X rest (cj X.mg N u)):bY X (st::rest) (cj X.mg N (Ex t u)):=s8 (D4 h1 h2) λQ σ H q=>by
 obtain⟨A,ι,τ,R,S,q,k⟩:=q;exact⟨A,ι,τ,_,S,q,⟨λa d b e H1 f c g h=>⟨d,b,a,R,S.to c g h,f,k.from c⟩,k.rt,k.bk,k.ct⟩⟩
theorem aU(h1:PS X st (cj X.mg N t)):bY X [st] (cj X.mg N t):=D6 h1
theorem kj(b:PE X e (up X.mg N m))(hs:swapsWith e none pos.line X.env=pure false:=by rfl):PS X (.Expr e pos) (cj X.mg N (El m)):=iG (DU b hs) λQ σ H q=>by
 obtain⟨A,ι,τ,R,S,q,k⟩:=q;exact⟨A,ι,τ,_,S,q,λv g c H1 u d a f h=>(k.nx.from a).here (S.next a f) d⟩
theorem aY(a:PE X e (up X.mg N m)):PS X (.Return (some e) pos) (cj X.mg N (Ew m)):=iG (D0 a) λQ σ H q=>by
 obtain⟨A,ι,τ,R,S,q,k⟩:=q;exact⟨A,ι,τ,_,S,q,k.rt⟩
theorem cS{c:Expr}{a b:List Stmt}{tc:cX}(hc:PT X c (bZ X.mg N tc))(i:bY X a (cj X.mg N t))(j:bY X b (cj X.mg N u)):PS X (.If c a b pos) (cj X.mg N (Eo tc t u)):=iG (DW hc i j) λQ σ H q=>by
 obtain⟨A,ι,τ,R,S,q,k⟩:=q;refine⟨A,ι,τ,_,S,q,λx f d H1 g e h=>?_⟩;cases x with
 |true=>rw[ai rfl];exact⟨f,d,τ,R,S.next e h,g,k.from e⟩
 |false=>rw[aj b7];exact⟨f,d,τ,R,S.next e h,g,k.from e⟩
end
abbrev iz:=D->bw->Ar->(bw->Ar->Prop)->Prop
def qT(mg:aq)(N:En)(g:iz):TG:=λv σ H Q=>∃A ι τ d R,cC mg N A ι τ σ H/\RV mg ι A.length H d v/\g d τ A R/\gc mg A ι H R Q
def gN(i:Nat):iz:=λd τ A R=>R (τ.set i (some d)) A
section
variable{X:Cx}{N:En}{pos:Pos}{e tg:Expr}{es:List Expr}{m:aM}{g:iz}{gs:Gk}
theorem zH{t t':TG}(h:PG X tg t)(w:∀v σ H Q,t' v σ H Q->t v σ H Q):PG X tg t':=λpins s σ H v u Q I r q=>h pins s σ H v u Q I r (w v σ H Q q)
theorem zG{i:Nat}{x:Str}(a:X.N.Nodup)(hi:X.N[i]?=some x)(b:Loc X.env.scope x)(c:X.fn x=true\/X.env.scope.names.lookup x=some .local:=by first|exact .inl rfl|exact .inr rfl|assumption):PG X (.Name x pos) (qT X.mg N (gN i)):=
 zH (vv a hi b c) λv σ H Q q=>by
  obtain⟨A,ι,τ,d,R,S,r,q,k⟩:=q;exact k.here (S.set r) q
def v8(i:Nat)(m:aM):cW:=λR τ A=>m τ A λv A1=>R.nx (τ.set i (some v)) A1
theorem zR{i:Nat}{x:Str}{pos':Pos}(b:X.N.Nodup)(hi:X.N[i]?=some x)(c:Loc X.env.scope x)(d:PE X e (up X.mg N m))(hs:swapsWith e (some (.Name x pos')) pos.line X.env=pure false:=by rfl)(f:X.fn x=true\/X.env.scope.names.lookup x=some .local:=by first|exact .inl rfl|exact .inr rfl|assumption):
  PS X (.Assign [.Name x pos'] e pos) (cj X.mg N (v8 i m)):=iG (D3 b hi c d hs f) λQ σ H q=>by
 obtain⟨A,ι,τ,R,S,q,k⟩:=q;exact⟨A,ι,τ,_,S,q,λv n g H1 u h a j l=>(k.nx.from a).here ((S.next a j).set l) h⟩
def Et(i j:Nat)(n:cB):cW:=λR τ A=>n τ A λvs A1=>match vs with
 |[v,w]=>R.nx ((τ.set i (some v)).set j (some w)) A1
 |_=>False
theorem sZ{i j:Nat}{x y:Str}{a b:Expr}{n:cB}{px py pt:Pos}{kt k2 d}(hc:X.calm=true)(h:X.N.Nodup)(hi:X.N[i]? =some x)(l:X.N[j]? =some y)(e:i≠j)
  (m:X.env.scope.names.lookup x=some .local)(o:X.env.scope.names.lookup y=some .local)(p:PA X [a,b] (eE X.mg N n))
  (r:swappedStores [.Tuple [.Name x px,.Name y py] kt pt] (.Tuple [a,b] k2 d) X.env=pure (some [x,y]))
  (hs:swapsWithSole [.Tuple [.Name x px,.Name y py] kt pt] (.Tuple [a,b] k2 d) pos.line X.env=pure false:=by rfl):
  PS X (.Assign [.Tuple [.Name x px,.Name y py] kt pt] (.Tuple [a,b] k2 d) pos) (cj X.mg N (Et i j n)):=iG (DY hc h hi l e m o p r hs) λQ σ H q=>by
 obtain⟨A,ι,τ,R,S,q,k⟩:=q
 refine⟨A,ι,τ,_,S,q,λvs B s H1 C c g t f=> ?_⟩
 match vs,c,f with
 |[v,w],c,f=>
  obtain⟨u,_,rfl,h1,z,_,rfl,h2,h3⟩:=f
  obtain rfl:=h3
  exact⟨u,z,rfl,(k.nx.from g).here (((S.next g t).set h1).set h2) c⟩
 |[],c,_=>exact c.elim
 |[_],c,_=>exact c.elim
 |_::_::_::_,c,_=>exact c.elim
end
abbrev DX:=Str->Ar->Prop
abbrev Ct:=List D->Ar->DK->DX->Prop
def xY(mg:aq)(A:Ar)(ι:Io)(H:Hp)(R:DX)(E:XK):Prop:=∀c A' ι' H' C,R c A'->mg c=some (.ref C)->Ext A ι H A' ι' H'->RA mg ι' H' A'->E (.ref C) none H'
def aH(mg:aq)(n:Nat)(S:Ct):Sp:=λvs H Q E=>∃A ι ds R RE,ds.length=n/\RA mg ι H A/\ak mg ι A.length H ds vs/\S ds A R RE/\Kt mg A ι H R Q/\xY mg A ι H RE E
def EL(mg:aq)(N:En)(R:DX):XK:=λC _ H'=>∃c A' ι',(∃a,C=.ref a/\mg c=some (.ref a))/\Ext N.A N.ι N.H A' ι' H'/\RA mg ι' H' A'/\R c A'
def sI(n:Nat)(S:Ct)(RE:DX)(m:cB):aM:=λτ A R=>m τ A λvs A1=>vs.length=n/\S vs A1 R RE
section
variable{X:Cx}{N:En}{k n:Nat}{x:Str}{ps:List Str}{S:Ct}{RE:DX}{e:Expr}{es:List Expr}{m:cB}{p pos:Pos}
theorem zu(F:aG X.prog X.w X.K X.mg X.base k x ps (aH X.mg n S))(i:bQ k X.A)(j:Passes (aQ X.prog X.w) X (EL X.mg N RE))(l:PA X (e::es) (eE X.mg N m))(o:Gl X x:=by rfl)(a:(x==("__debug__":Str))=false:=by decide)
  (r:starEach (e::es) X.env=(false,eval e X.env)::starEach es X.env:=by rfl)(b:(backTo pos (starEach es X.env)).any (·.1)=false:=by rfl):
  PE X (.Call (.Name x p) (e::es) [] pos) (up X.mg N (sI n S RE m)):=cZ (Dl F i j l o a r b) λσ H Q q=>by
 obtain⟨A,ι,τ,R,Z,q,k⟩:=q;refine⟨A,ι,τ,_,Z,q,λvs s d H1 t g h u v=>?_⟩;show aH X.mg n S (t++[]) H1 Q (EL X.mg N RE);rw[e8];exact⟨s,d,vs,R,RE,g.1,u,v,g.2,k.from h,λc y f H2 C z hc B D=>⟨c,y,f,⟨C,rfl,hc⟩,(Z.ex.trans h).trans B,D,z⟩⟩
end
def gB(n:Nat)(ds:List D):bw:=ds.map some++replicate n none
theorem qa:∀(ds:List D) (n i:Nat) (d:D),lk (gB n ds) i=some d->ds[i]?=some d
 |[],n,i,d,h=>by
  rw[mU] at h;simp[gB,List.getElem?_replicate] at h;split at h<;>simp at h
 |x::r,n,0,d,h=>by simpa[gB,lk] using h
 |x::r,n,i+1,d,h=>by simpa using qa r n i d h
theorem TopD.fP{P:Program}{w:World}{K:Frag}{mg:aq}{base:Heap}{x:Str}{st:Stmt}{Nm ps:List Str}{k n:Nat}{S:Ct}(T:TopD K mg x st ps)(Sc:bE Nm ps (aI st))(hn:ps.length=n)(O:ps.length<=Nm.length)
  (g:∀(N:En) (RE:DX) (X:Cx),X.prog=P->X.w=w->X.K=K->X.mg=mg->X.base=base->X.N=Nm->X.calm=true->X.ex=[]->(∃f j A outer s H E,X=bx (aQ P w) P w K mg base Nm x (aI st) f j A outer s H E)->bQ k X.A->Raises X (EL X.mg N RE)->Passes (aQ X.prog X.w) X (EL X.mg N RE)->
   ∀ds A R,S ds A R RE->ds.length=n->∃m,bY X (dQ st) (cj X.mg N m)/\m {nx:=λ_ A'=>R .aJ A',rt:=R} (gB (Nm.length - n) ds) A):aG P w K mg base (k+1) x ps (aH mg n S):=by
 refine T.fnX Sc (λvs H Q E h=> ?_) λf j A outer s H vs Q E B h=> ?_
 .obtain⟨A,ι,ds,R,RE,t,_,o,_⟩:=h
  rw[<-ak.length o,t,hn]
 .obtain⟨p,l,ds,R,RE,t,ra,o,D,kq,F⟩:=h
  have y:∀C a H',EL mg ⟨p,l,H⟩ RE C a H'->E C none H':=λC a H' z=>by
   obtain⟨c,A',ι',⟨b,rfl,hc⟩,ex,r,q⟩:=z
   exact F c A' ι' H' b q hc ex r
  obtain⟨m,G,J⟩:=g ⟨p,l,H⟩ RE (bx (aQ P w) P w K mg base Nm x (aI st) f j A outer s H E) rfl rfl rfl rfl rfl rfl rfl rfl ⟨_,_,_,_,_,_,_,rfl⟩ B
   (λpins σ H1 u e h' C args I L z=>vU pins σ H1 u e h' C args I L (y _ _ _ z))
   (λpins σ H1 u e s' I z=>vq pins σ H1 u e s' I (by
    obtain⟨a,C,H',h1,h2,h3⟩:=z
    exact⟨a,C,H',h1,h2,y _ _ _ h3⟩)) ds p R D t
  have M:=ak.length o
  refine⟨_,G,p,l,_,_,⟨ra,⟨?_,λi d q=> ?_⟩,ra.refl⟩,J,⟨λτ A' ι' σ H' q e r _=>kq _ A' ι' H' _ q e r rfl,kq,λ_ _ _ _ _ q _ _ _=>q.elim,λ_ _ _ _ _ q _ _ _=>q.elim⟩⟩
  .simp[gB,L2.start]
   omega
  .obtain⟨v,h1,h2⟩:=ak.get o (qa ds _ i d q)
   refine⟨v,?_,h2⟩
   have hi:=(b6.mp h1).1
   unfold L2.start
   rw[e9 (by simpa using hi),bD,h1]
   rfl
abbrev iy:=List D->Ar->DK->Prop
def jS(mg:aq)(r:List V->Hp->VK->Prop)(f:iy):Prop:=∀ds A ι H us R Q,RA mg ι H A->ak mg ι A.length H ds us->f ds A R->Kt mg A ι H R Q->r us H Q
def o8(f:iy)(m:cB):aM:=λτ A R=>m τ A λvs A1=>f vs A1 R
section
variable{X:Cx}{N:En}{e:Expr}{es:List Expr}{m:cB}{p pos:Pos}{f:iy}{r:List V->Hp->VK->Prop}{x:Str}{id T:String}
theorem F6(h:jS X.mg r f){σ:L2.St}{H:Hp}{Q:VK}(q:up X.mg N (o8 f m) σ H Q):w4 r (eE X.mg N m) σ H Q:=by
 obtain⟨A,ι,τ,R,S,q,k⟩:=q;exact⟨A,ι,τ,_,S,q,λvs b a H1 c d e g i=>h vs b a H1 c R Q g i d (k.from e)⟩
theorem eu(hc:d_ X (.builtin id) r)(hd:jS X.mg r f)(c:X.mg x=none)(d:bootBuiltins x=some (.builtin id))(g:PA X (e::es) (eE X.mg N m))(i:Gl X x:=by rfl)(hn:x≠"__name__":=by decide)(a:(x==("__debug__":Str))=false:=by decide)
 (j:starEach (e::es) X.env=(false,eval e X.env)::starEach es X.env:=by rfl)(b:(backTo pos (starEach es X.env)).any (·.1)=false:=by rfl):PE X (.Call (.Name x p) (e::es) [] pos) (up X.mg N (o8 f m)):=cZ (vt hc i c d g hn a j b) λ_ _ _ h=>F6 hd h
end
@[irreducible] def mT(r:Nat)(A:Ar)(R:DK):Prop:=match A[r]? with
 |some (.lst xs)=>R (.int xs.length) A
 |some (.dct kvs)=>R (.int kvs.length) A
 |_=>False
def uI:iy:=λvs A R=>match vs with
 |[.tup xs]=>R (.int xs.length) A
 |[.str z]=>z.length<=sizeLine/\R (.int z.length) A
 |[.fl ns]=>R (.int ns.length) A
 |[.ref r]=>mT r A R
 |_=>False
theorem RK.length{mg:aq}{ι:Io}{H:Hp}:∀{ds:List (Key×D)} {vs:List (Key×V)} {n:Nat},RK mg ι n H ds vs->ds.length=vs.length
 |[],vs,_,h=>by have h':vs=[]:=h;rw[h'];rfl
 |d::ds,vs,n,h=>by
  obtain⟨x,r,rfl,_,a⟩:=h;simp[RK.length a]
theorem fu{X:Cx}:d_ X (.builtin "len") (λxs H Q=>(∃p ys,xs=[.ref p]/\(aX X.K H p ys\/bg X.K H p ys)/\Q (.int ys.length) H)\/(∃z,xs=[.str z]/\z.length<=sizeLine/\Q (.int z.length) H)\/∃a kvs,xs=[V.ref a]/\H a=some (.dK kvs)/\Q (.int kvs.length) H):=yp.or (yq.or yo)
theorem ef{mg:aq}{K:Frag}:jS mg (λxs H Q=>(∃p ys,xs=[.ref p]/\(aX K H p ys\/bg K H p ys)/\Q (.int ys.length) H)\/(∃z,xs=[.str z]/\z.length<=sizeLine/\Q (.int z.length) H)\/∃a kvs,xs=[V.ref a]/\H a=some (.dK kvs)/\Q (.int kvs.length) H) uI:=by
 intro ds A ι H c R Q ra rs h k;unfold uI at h;split at h
 .obtain⟨_,_,rfl,⟨a,xs,rfl,d,b⟩,rfl⟩:=rs
  exact .inl ⟨a,xs,rfl,.inr (bg.of d),k.here ra h (by rw[ak.length b];rfl)⟩
 .obtain⟨_,_,rfl,rfl,rfl⟩:=rs
  exact .inr (.inl ⟨_,rfl,h.1,k.here ra h.2 rfl⟩)
 .obtain⟨_,_,rfl,⟨a,o,rfl,d⟩,rfl⟩:=rs
  exact .inl ⟨a,_,rfl,.inl (.inl (.inr ⟨o,d⟩)),k.here ra h (by rw[bA];rfl)⟩
 .obtain⟨_,_,rfl,⟨_,rfl⟩,rfl⟩:=rs
  unfold mT at h;split at h
  .rename_i xs e
   obtain⟨c,h1,b⟩:=ra.lst e;exact .inl ⟨_,c,rfl,.inl (aX.of h1),k.here ra h (by rw[ak.length b];rfl)⟩
  .rename_i xs e
   obtain⟨c,h1,b⟩:=ra.dct e;exact .inr (.inr ⟨_,c,rfl,h1,k.here ra h (by rw[RK.length b];rfl)⟩)
  .exact h.elim
 .exact h.elim
@[irreducible] def GA(r:Nat)(A:Ar)(R:DK):Prop:=match A[r]? with
 |some (.lst xs)=>R (.ref A.length) (A++[.lst xs])
 |_=>False
def fm:List D->Option (List Bool)
 |[]=>some []
 |.bl b::r=>(fm r).map (b::·)
 |_::_=>none
theorem sq{mg:aq}{ι:Io}{n:Nat}{H:Hp}:∀{ds:List D} {a:List V} {bs:List Bool},fm ds=some bs->ak mg ι n H ds a->a=bs.map V.bl
 |[],a,bs,h,r=>by cases h;exact r
 |d::ds,a,bs,h,r=>by
  obtain⟨x,r',rfl,h1,h2⟩:=r;cases d with
  |bl b=>
   cases q:fm ds with
   |none=>simp[fm,q] at h
   |some l=>
    simp[fm,q] at h;subst h;rw[sq q h2];cases h1;rfl
  |_=>simp[fm] at h
@[irreducible] def allR(r:Nat)(A:Ar)(R:DK):Prop:=match A[r]? with
 |some (.lst xs)=>(match fm xs with
  |some bs=>R (.bl (bs.all id)) A
  |none=>False)
 |_=>False
def rX:iy:=λvs A R=>match vs with
 |[.ref r]=>allR r A R
 |_=>False
theorem zh{mg:aq}{K:Frag}:jS mg (λxs H Q=>∃(p:Addr) (bs:List Bool),xs=[.ref p]/\aX K H p (bs.map V.bl)/\Q (.bl (bs.all id)) H) rX:=by
 intro ds A ι H a R Q ra rs h k;unfold rX at h;split at h
 .obtain⟨_,_,rfl,⟨_,rfl⟩,rfl⟩:=rs
  unfold allR at h;split at h
  .rename_i xs e
   split at h
   .rename_i bs b
    obtain⟨a,h1,c⟩:=ra.lst e;exact⟨_,bs,rfl,aX.of (by rw[h1,sq b c]),k.here ra h rfl⟩
   .exact h.elim
  .exact h.elim
 .exact h.elim
def jE(A:Ar):D->Option String
 |.aJ=>some "NoneType"
 |.bl _=>some "bool"
 |.int _=>some "int"
 |.str _=>some "str"
 |.tup _=>some "tuple"
 |.fl _=>some "list"
 |.exc _=>none
 |.ref r=>match A[r]? with
  |some (.lst _)=>some "list"
  |some (.dct _)=>some "dict"
  |_=>none
def gV(t c:String):Bool:=t==c||(t=="bool"&&c=="int")
def yZ(c:String)(m:aM):aM:=λτ A R=>m τ A λx A1=>match jE A1 x with
 |some t=>R (.bl (gV t c)) A1
 |none=>False
def tys:List String:=["NoneType","bool","int","str","tuple","list","dict"]
theorem F4{A:Ar}{d:D}{t:String}(h:jE A d=some t):t∈tys:=by
 cases d with
 |ref r=>
  unfold jE at h;simp only at h;split at h<;>first|(cases h;decide)|cases h
 |exc c=>cases h
 |_=>cases h;decide
theorem RA.ty{mg:aq}{K:Frag}{A:Ar}{ι:Io}{H:Hp}(ra:RA mg ι H A){d:D}{v:V}{t:String}(h:jE A d=some t)(r:RV mg ι A.length H d v):j3 K H v (.type t):=by
 cases d with
 |aJ=>cases h;cases r;exact .of .aJ
 |bl b=>cases h;cases r;exact .of (.bl b)
 |int b=>cases h;cases r;exact .of (.int b)
 |str b=>cases h;cases r;exact .of (.str b)
 |tup ds=>cases h;obtain⟨a,xs,rfl,e,_⟩:=r;exact .of (.tup e)
 |fl ns=>cases h;obtain⟨a,o,rfl,e⟩:=r;exact .of (.bR e)
 |exc c=>cases h
 |ref q=>
  obtain⟨_,rfl⟩:=r;unfold jE at h;simp only at h;split at h
  .rename_i xs e
   cases h;obtain⟨f,h1,_⟩:=ra.lst e;exact .of (.lst h1)
  .rename_i xs e
   cases h;obtain⟨f,h1,_⟩:=ra.dct e;exact .of (.dK h1)
  .cases h
section
variable{X:Cx}{N:En}{e:Expr}{es:List Expr}{m:aM}{p p2 pos:Pos}{x:Str}{c:String}
theorem j_(hk:∀t∈tys,kitOne X.K (.type t) (.type c)=some (gV t c))(l:X.mg "isinstance"=none)(b:X.mg x=none)(d:bootBuiltins x=some (.type c))(n:PE X e (up X.mg N m))(o:Gl X "isinstance":=by rfl)(f:Gl X x:=by rfl)(hn:x≠"__name__":=by decide)(g:(x==("__debug__":Str))=false:=by decide)
  (hs:starEach [e,.Name x p2] X.env=[(false,eval e X.env),(false,eval (.Name x p2) X.env)]:=by rfl):
  PE X (.Call (.Name "isinstance" p) [e,.Name x p2] [] pos) (up X.mg N (yZ c m)):=by
 have r:PE X (.Name x p2) (tC (.ty c)):=Di f b d rfl hn g;refine cZ (vt ym o l boot_isinstance (qw n (qw r vo rfl) (by rw[hs];rfl)) (by decide) (by decide) (by rw[hs];rfl) rfl) λσ H Q q=>?_;obtain⟨A,ι,τ,R,S,q,k⟩:=q;refine⟨A,ι,τ,_,S,q,λv h s H1 u a w i y=>?_⟩;have a:(match jE h v with|some t=>R (.bl (gV t c)) h|none=>False):=a;split at a
 .rename_i t j
  exact⟨u,c,.type t,gV t c,rfl,i.ty j y,hk t (F4 j),(k.from w).here i a rfl⟩
 .exact a.elim
end
abbrev jU:=D->List D->Ar->DK->Prop
def oJ(mg:aq)(K:Frag)(T:String)(r:V->List V->Hp->VK->Prop)(f:jU):Prop:=∀x ds A ι H u us R Q,RA mg ι H A->RV mg ι A.length H x u->ak mg ι A.length H ds us->f x ds A R->Kt mg A ι H R Q->r u us H Q
def iK(A:Ar):D->Bool
 |.ref r=>match A[r]? with
  |some (.lst _)=>true
  |_=>false
 |_=>false
def za(f:jU)(mo:aM)(m:cB):aM:=λτ A R=>mo τ A λx A1=>iK A1 x=true/\m τ A1 λvs A2=>f x vs A2 R
theorem RA.iK{mg:aq}{K:Frag}{A:Ar}{ι:Io}{H:Hp}(ra:RA mg ι H A){d:D}{v:V}(h:iK A d=true)(r:RV mg ι A.length H d v):qR K "list" v H:=by
 cases d with
 |ref q=>
  obtain⟨_,rfl⟩:=r;unfold DP.iK at h;simp only at h;split at h
  .rename_i xs e
   obtain⟨a,h1,_⟩:=ra.lst e;exact .inl ⟨rfl,a,aX.of h1⟩
  .cases h
 |_=>cases h
section
variable{X:Cx}{N:En}{e o:Expr}{es:List Expr}{mo:aM}{m:cB}{apos cpos:Pos}{f:jU}{r:V->List V->Hp->VK->Prop}{name:Str}{id:String}
theorem pq(pa:PlainAttrs "list")(slot:Slot "list" name id)(g:typeOf (.builtin id)=pure (.type "method_descriptor"))(t:rC X id r)(hd:oJ X.mg X.K "list" r f)(v:PE X o (up X.mg N mo))(w:PA X (e::es) (eE X.mg N m))
  (b:attributeBase o name X.env (eval o X.env)=eval o X.env:=by rfl)
  (d:((backTo cpos (starEach (e::es) X.env)).all (λx=> !x.1)&&(backToKw cpos (keywordEach [] X.env)).all (λx=>x.1.isSome)
   &&decide ((e::es).length+([]:List Keyword).length+(if ([]:List Keyword).isEmpty then 0 else 1)<30))=true:=by rfl)
  (c:(apos.endLine==cpos.line)=true:=by rfl)(hs:starEach (e::es) X.env=(false,eval e X.env)::starEach es X.env:=by rfl)(a:(backTo cpos (starEach es X.env)).any (·.1)=false:=by rfl):
  PE X (.Call (.Attribute o name apos) (e::es) [] cpos) (up X.mg N (za f mo m)):=cZ (Dj pa slot g t v w b d c hs a) λσ H Q q=>by
 obtain⟨A,ι,τ,R,S,q,k⟩:=q
 refine⟨A,ι,τ,_,S,q,λx y h H1 u j l n p=> ?_⟩
 refine⟨n.iK j.1 p,y,h,τ,_,S.next l n,j.2,λys z i H2 B C s D v2=> ?_⟩
 exact hd x ys z i H2 u B R Q D (RV.ext s x u p) v2 C (k.from (l.trans s))
end
theorem vD{mg:aq}{A:Ar}{ι:Io}{H:Hp}{R:DK}{Q:VK}{ds es:List D}{xs ys:List V}{q:Nat}{d:D}{v:V}(k:Kt mg A ι H R Q)(r:RA mg ι H A)(a:A[q]?=some (.lst ds))(b:H (ι q)=some (.lst xs))(h:ak mg ι A.length H es ys)
  (hq:R d (A.set q (.lst es)))(hd:∀H',RV mg ι A.length H' d v):Q v (upd H (ι q) (.lst ys)):=by
 have E:Ext A ι H (A.set q (.lst es)) ι (upd H (ι q) (.lst ys)):=r.tM (b6.mp a).1;obtain⟨c,e⟩:=r.put (c':=.lst es) (o:=.lst ys) a b rfl ⟨ys,gZ,by simpa using ak.ext E es ys h⟩;exact k _ _ _ _ _ hq e c (by simpa using hd _)
@[irreducible] def lV(r:Nat)(y:D)(A:Ar)(R:DK):Prop:=match A[r]? with
 |some (.lst xs)=>xs.length<sizeLine/\R .aJ (A.set r (.lst (xs++[y])))
 |_=>False
def rY:jU:=λx vs A R=>match x,vs with
 |.ref r,[y]=>lV r y A R
 |_,_=>False
theorem sL{mg:aq}{K:Frag}:oJ mg K "list" vH rY:=by
 intro x ds A ι H u d R Q ra b rs h k;unfold rY at h;split at h
 .obtain⟨_,rfl⟩:=b
  obtain⟨v,_,rfl,c,rfl⟩:=rs;unfold lV at h;split at h
  .rename_i xs e
   obtain⟨ws,h1,a⟩:=ra.lst e;exact⟨_,ws,v,rfl,rfl,h1,by rw[<-ak.length a];exact h.1,vD k ra e h1 (a.app (es:=[_]) (ws:=[v]) ⟨v,[],rfl,c,rfl⟩) h.2 λ_=>rfl⟩
  .exact h.elim
 .exact h.elim
@[irreducible] def mD(r q:Nat)(A:Ar)(R:DK):Prop:=match A[r]?,A[q]? with
 |some (.lst xs),some (.lst ys)=>xs.length+ys.length<=sizeLine/\R .aJ (A.set r (.lst (xs++ys)))
 |_,_=>False
def tH:jU:=λx vs A R=>match x,vs with
 |.ref r,[.ref q]=>mD r q A R
 |_,_=>False
theorem zj{mg:aq}{K:Frag}:oJ mg K "list" vK tH:=by
 intro x ds A ι H u f R Q ra c rs h k;unfold tH at h;split at h
 .obtain⟨_,rfl⟩:=c
  obtain⟨v,_,rfl,⟨_,rfl⟩,rfl⟩:=rs;unfold mD at h;split at h
  .rename_i xs ys e d
   obtain⟨ws,h1,a⟩:=ra.lst e;obtain⟨zs,h2,b⟩:=ra.lst d;exact⟨_,_,ws,zs,rfl,rfl,h1,h2,by rw[<-ak.length a,<-ak.length b];exact h.1,vD k ra e h1 (a.app b) h.2 λ_=>rfl⟩
  .exact h.elim
 .exact h.elim
def Eu(RE:DX)(c:Str)(m:cB):cW:=λ_ τ A=>m τ A λvs A1=>vs.length<=sizeLine/\RE c A1
theorem zQ{X:Cx}{N:En}{RE:DX}{x:Str}{C:Addr}{e:Expr}{m:cB}{np cpos pos:Pos}(f:Raises X (EL X.mg N RE))(hc:X.calm=true)(c:X.mg x=some (.ref C))(g:excIn X.K C qV "ValueError.__new__"=true)(h:PA X [e] (eE X.mg N m))(i:Gl X x:=by rfl)(a:(x==("__debug__":Str))=false:=by decide)
  (j:starEach [e] X.env=[(false,eval e X.env)]:=by rfl):PS X (.Raise (some (.Call (.Name x np) [e] [] cpos)) none pos) (cj X.mg N (Eu RE x m)):=iG (DZ f hc c g h i a j) λQ σ H q=>by
 obtain⟨A,ι,τ,R,S,q,k⟩:=q;exact⟨A,ι,τ,_,S,q,λvs l b H1 r d n o p=>⟨by rw[<-ak.length p];exact d.1,x,l,b,⟨C,rfl,c⟩,S.ex.trans n,o,d.2⟩⟩
section
variable{X:Cx}{N:En}{pos:Pos}{a b c:Expr}{ma mb mc:aM}{x:Str}
theorem vr(i:Nat)(b:X.N[i]?=some x:=by rfl)(c:j4 X.env.scope x:=by first|exact Or.inl rfl|exact Or.inr (Or.inl rfl)|exact Or.inr (Or.inr rfl))(hd:(x==("__debug__":Str))=false:=by decide)
 (a:(x==("__classdict__":Str))=false:=by decide):PE X (.Name x pos) (up X.mg N (o9 i)):=zD b c hd a
theorem pK(c:X.A.units+64<cLine)(d:PE X a (up X.mg N ma))(e:PE X b (up X.mg N mb)):PE X (.Compare a [.Eq] [b] pos) (up X.mg N (dF ko ma mb)):=zw (vd c) sM d e (ng _)
theorem dJ(c:X.A.units+64<cLine)(d:PE X a (up X.mg N ma))(e:PE X b (up X.mg N mb)):PT X (.Compare a [.Eq] [b] pos) (bZ X.mg N (gP (dF ko ma mb))):=pJ (vd c) sM d e (ng _)
theorem nP(c:X.A.units+64<cLine)(d:PE X a (up X.mg N ma))(e:PE X b (up X.mg N mb)):PT X (.Compare a [.NotEq] [b] pos) (bZ X.mg N (gP (dF m7 ma mb))):=pJ (CN c) zq d e (ng _)
theorem FP(c:PE X a (up X.mg N ma))(d:PE X b (up X.mg N mb)):PT X (.Compare a [.Lt] [b] pos) (bZ X.mg N (gP (dF qg ma mb))):=pJ CM zo c d (ng _)
theorem tu(d:PE X a (up X.mg N ma))(e:PE X b (up X.mg N mb))(hc:PE X c (up X.mg N mc))(f:lastMarks [.LtE,.LtE] [b,c]=false:=by with_unfolding_all rfl):PE X (.Compare a [.LtE,.LtE] [b,c] pos) (up X.mg N (j9 jv jv ma mb mc)):=zv nh nh l_ l_ d e hc f
theorem FO(d:PE X a (up X.mg N ma))(e:PE X b (up X.mg N mb))(hc:PE X c (up X.mg N mc))(f:lastMarks [.LtE,.LtE] [b,c]=false:=by with_unfolding_all rfl):PT X (.Compare a [.LtE,.LtE] [b,c] pos) (bZ X.mg N (gP (j9 jv jv ma mb mc))):=zS nh nh l_ l_ d e hc f
end
theorem fP{P:Program}{w:World}{K:Frag}{mg:aq}{base:Heap}{x:Str}{st:Stmt}{Nm ps:List Str}{k n:Nat}{S:Ct}(T:TopD K mg x st ps)(Sc:bE Nm ps (aI st))(hn:ps.length=n)(c:ps.length<=Nm.length)
  (b:∀(N:En) (RE:DX) (f:Addr) (a:Value) (B:Around) (outer:List Env) (s:Shared) (H:Hp) (E:XK),bQ k (bx (aQ P w) P w K mg base Nm x (aI st) f a B outer s H E).A->
   Raises (bx (aQ P w) P w K mg base Nm x (aI st) f a B outer s H E) (EL mg N RE)->Passes (aQ P w) (bx (aQ P w) P w K mg base Nm x (aI st) f a B outer s H E) (EL mg N RE)->
   ∀ds A R,S ds A R RE->ds.length=n->∃m,bY (bx (aQ P w) P w K mg base Nm x (aI st) f a B outer s H E) (dQ st) (cj mg N m)/\m {nx:=λ_ A'=>R .aJ A',rt:=R} (gB (Nm.length - n) ds) A):aG P w K mg base (k+1) x ps (aH mg n S):=by
 refine TopD.fP T Sc hn c λN RE X _ _ _ _ _ _ _ _ d e g i ds A R h j=>?_;obtain⟨f,a,B,outer,s,H,E,rfl⟩:=d;exact b N RE f a B outer s H E e g i ds A R h j
structure jX(mg:aq)(A0:Ar)(xE:Io)(H0:Hp)(J:It)(items:List D)(cG:Ar->Prop):Prop where
 go:∀(i:Nat) d A ι H,items[i]? =some d->Ext A0 xE H0 A ι H->RA mg ι H A->cG A->J.go i H/\∀x H',J.nY i H x H'->Ext A ι H A ι H'/\RA mg ι H' A/\RV mg ι A.length H' d x
 stop:∀A ι H,Ext A0 xE H0 A ι H->RA mg ι H A->cG A->J.stop items.length H
abbrev gK:=bw->Ar->(List D->(Ar->Prop)->Ar->Prop)->Prop
def ly(mg:aq)(N:En)(m:gK):TI:=λσ H Q=>∃A ι τ R,cC mg N A ι τ σ H/\m τ A R/\∀items cG A' ι' H' J,R items cG A'->Ext A ι H A' ι' H'->RA mg ι' H' A'->jX mg A' ι' H' J items cG->Q J H'
theorem sV{X:Cx}{tg e:Expr}{t t':TI}(h:PI X tg e t)(w:∀σ H Q,t' σ H Q->t σ H Q):PI X tg e t':=λpins s σ H Q I q=>h pins s σ H Q I (w σ H Q q)
section
variable{mg:aq}{K:Frag}{A:Ar}{ι:Io}{H:Hp}
theorem BE{a:Addr}{ds:List D}{xs:List V}(f:H a=some (.tup xs))(g:ak mg ι A.length H ds xs):jX mg A ι H (oH K a) ds (λ_=>True) where
 go:=λi d h c H1 hd e r _=>by
  have b:=e.fix rfl f;obtain⟨v,h1,h2⟩:=ak.get (ak.ext e ds xs g) hd;refine⟨⟨xs,v,bg.of b,h1⟩,λx H' y=>?_⟩;obtain⟨rfl,y⟩:=y;have:=y xs (bg.of b);rw[h1] at this;cases this;exact⟨r.refl,r,h2⟩
 stop:=λh c H1 e r _=>⟨xs,bg.of (e.fix rfl f),by rw[ak.length g];exact aC _⟩
theorem BB{a:Addr}{o:Obj}{ns:List Int}(f:H a=some (.bR o (.lst (ns.map V.int)))):jX mg A ι H (lQ K a) (ns.map D.int) (λ_=>True) where
 go:=λi d g b H1 hd e r _=>by
  have c:aX K H1 a (ns.map V.int):=.inl (.inr ⟨o,e.fix rfl f⟩);obtain⟨v,h1,h2⟩:=ak.get (ak.ints (mg:=mg) (ι:=b) (H:=H1) ns (n:=g.length)) hd;refine⟨⟨_,v,c,h1⟩,λx H' y=>?_⟩;obtain⟨rfl,y⟩:=y;have:=y _ c;rw[h1] at this;cases this;exact⟨r.refl,r,h2⟩
 stop:=λg b H1 e r _=>⟨_,.inl (.inr ⟨o,e.fix rfl f⟩),by simp⟩
theorem BC{q:Nat}{ds:List D}(hq:q<A.length):jX mg A ι H (lQ K (ι q)) ds (λA'=>A'[q]?=some (.lst ds)) where
 go:=λi d b a H1 hd e r hc=>by
  obtain⟨xs,h1,h2⟩:=r.lst hc;rw[e.ag q hq] at h1;obtain⟨v,h3,c⟩:=ak.get h2 hd;refine⟨⟨xs,v,aX.of h1,h3⟩,λx H' y=>?_⟩;obtain⟨rfl,y⟩:=y;have:=y xs (aX.of h1);rw[h3] at this;cases this;exact⟨r.refl,r,c⟩
 stop:=λb a H1 e r hc=>by
  obtain⟨xs,h1,h2⟩:=r.lst hc;rw[e.ag q hq] at h1;exact⟨xs,aX.of h1,by rw[ak.length h2];exact aC _⟩
def gz(z:Str):List D:=z.cps.toList.map λc=>D.str ⟨#[c]⟩
theorem BD{z:Str}:jX mg A ι H (oG z) (gz z) (λ_=>True) where
 go:=λi d b a H1 hd e r _=>by
  unfold gz at hd;rw[bD] at hd;cases q:z.cps.toList[i]? with
  |none=>rw[q] at hd;cases hd
  |some j=>
   rw[q] at hd;cases hd;have hi:=(b6.mp q).1;refine⟨show i<z.cps.size by simpa using hi,λx H' y=>?_⟩;obtain⟨rfl,c,hc,rfl⟩:=y;have:z.cps.toList[i]?=some c:=by simpa using hc
   rw[q] at this;cases this;exact⟨r.refl,r,rfl⟩
 stop:=λb a H1 e r _=>by
  show _=_;simp[gz]
end
def Be(K:Frag)(tl:TE):TI:=λσ H R=>tl σ H λx H1=>(∃a,x=.ref a/\(∃xs,aX K H1 a xs)/\R (lQ K a) H1)\/(∃a,x=.ref a/\(∃xs,bg K H1 a xs)/\R (oH K a) H1)
theorem DJ{X:Cx}{tg l:Expr}{tl:TE}(i:PE X l tl):PI X tg l (Be X.K tl):=by
 intro pins s σ H R I h;refine aD (i pins s σ H _ I h) λv c ⟨x,H1,d,g,j⟩=>?_;rcases j with⟨a,e,⟨xs,hq⟩,q⟩|⟨a,e,⟨xs,hq⟩,q⟩
 .subst e
  cases g;obtain⟨its,k,p,m⟩:=d.list hq;refine wpAny_pyIter_list p.isList ?_;refine⟨c.heap.objs.size,[c.heap.objs.size],_,_,H1,rfl,d.kept (t':=c.toks) λb o e=>a_ _ e,F0 a _,⟨_,bL _ rfl,rfl,rfl⟩,λb f=>?_,q⟩;have e:b=c.heap.objs.size:=by simpa using f
  subst e;exact d.pQ (aC _) (d.hok.fresh (aC _))
 .subst e
  cases g;obtain⟨its,k,p,m⟩:=d.tuple hq;refine wpAny_pyIter_tuple (show c.heap.IsTuple a its.toArray from p) ?_;refine⟨c.heap.objs.size,[c.heap.objs.size],_,_,H1,rfl,d.kept (t':=c.toks) λb o e=>a_ _ e,F3 a _,⟨_,bL _ rfl,rfl,rfl⟩,λb f=>?_,q⟩;have e:b=c.heap.objs.size:=by simpa using f
  subst e;exact d.pQ (aC _) (d.hok.fresh (aC _))
@[irreducible] def itR(r:Nat)(A:Ar)(R:List D->(Ar->Prop)->Ar->Prop):Prop:=match A[r]? with
 |some (.lst xs)=>R xs (λA'=>A'[r]?=some (.lst xs)) A
 |_=>False
def Bd(m:aM):gK:=λτ A R=>m τ A λx A1=>match x with
 |.tup xs=>R xs (λ_=>True) A1
 |.fl ns=>R (ns.map .int) (λ_=>True) A1
 |.ref r=>itR r A1 R
 |_=>False
def Bg(m:aM):gK:=λτ A R=>m τ A λx A1=>match x with
 |.str z=>R (gz z) (λ_=>True) A1
 |_=>False
section
variable{X:Cx}{N:En}{pos p:Pos}{tg e a b:Expr}{m:aM}{n:cB}{nm:Str}{px:Pos}
theorem sU(i:PE X e (up X.mg N m)):PI X tg e (ly X.mg N (Bd m)):=sV (DJ i) λσ H Q q=>by
 obtain⟨A,ι,τ,R,S,q,k⟩:=q;refine⟨A,ι,τ,_,S,q,λx d c H1 u a g f h=>?_⟩;cases x with
 |tup ds=>
  obtain⟨b,xs,rfl,h1,h2⟩:=h;exact .inr ⟨b,rfl,⟨xs,bg.of h1⟩,k ds _ d c H1 _ a g f (BE h1 h2)⟩
 |fl ns=>
  obtain⟨b,o,rfl,h1⟩:=h;exact .inl ⟨b,rfl,⟨_,.inl (.inr ⟨o,h1⟩)⟩,k _ _ d c H1 _ a g f (BB h1)⟩
 |ref r=>
  obtain⟨j,rfl⟩:=h;have a:itR r d R:=a;unfold itR at a;split at a
  .rename_i xs e
   obtain⟨l,h1,_⟩:=f.lst e;exact .inl ⟨_,rfl,⟨l,aX.of h1⟩,k _ _ d c H1 _ a g f (BC j)⟩
  .exact a.elim
 |_=>exact a.elim
theorem zI(c:PE X e (up X.mg N m)):PI X (.Name nm px) e (ly X.mg N (Bg m)):=sV (DL c) λσ H Q q=>by
 obtain⟨A,ι,τ,R,S,q,k⟩:=q;refine⟨A,ι,τ,_,S,q,λx d a H1 u b f g h=>?_⟩;cases x with
 |str z=>exact⟨z,h,k _ _ d a H1 _ b f g BD⟩
 |_=>exact b.elim
end
def jg(cG:Ar->Prop)(g:iz)(b:cW)(R:jT):List D->bw->Ar->Prop
 |[],τ,A=>cG A/\R.nx τ A
 |x::xs,τ,A=>cG A/\g x τ A λGj A1=>b {R with nx:=jg cG g b R xs,ct:=jg cG g b R xs,bk:=R.nx} Gj A1
def Em(it:gK)(g:iz)(b:cW):cW:=λR τ A=>it τ A λitems cG A1=>jg cG g b R items τ A1
theorem sY{X:Cx}{N:En}{pos:Pos}{tg iter:Expr}{body:List Stmt}{it:gK}{g:iz}{tb:cW}(T:PassesOwn (model X.prog X.w) X.A X.env X.xe)(hc:X.calm=true)(hi:PI X tg iter (ly X.mg N it))(U:PG X tg (qT X.mg N g))(V:bY X body (cj X.mg N tb))
  (hs:∀x,foldedSetIterable iter X.env x=pure x:=by intro _;rfl):PS X (.For tg iter body [] pos) (cj X.mg N (Em it g tb)):=iG (DV T hc hi U V hs) λQ σ H q=>by
 obtain⟨A,ι,τ,R,S,q,k⟩:=q;refine⟨A,ι,τ,_,S,q,λitems n v b H1 J W s O P=>?_⟩;have Y:=S.next s O;refine⟨λi m σ' H'=>m=items.length - i/\i<=items.length/\∃A' ι' dN,cC X.mg N A' ι' dN σ' H'/\Ext v b H1 A' ι' H'/\jg n g tb R (items.drop i) dN A',⟨_,rfl,ck _,v,b,τ,Y,O.refl,by simpa using W⟩,?_⟩;rintro i m Z H2 ⟨rfl,hi,B,c,C,d,f,h⟩;by_cases D:i<items.length
 .right
  have hd:items.drop i=items[i]::items.drop (i+1):=by rw[lK D]
  rw[hd] at h;obtain⟨o,h⟩:=h;obtain⟨g1,g2⟩:=P.go i items[i] B c H2 (by rw[bf D]) f d.ra o;refine⟨g1,λσ' H'=>∃A' ι' dN,cC X.mg N A' ι' dN σ' H'/\Ext v b H1 A' ι' H'/\jg n g tb R (items.drop (i+1)) dN A',λσ' H' ⟨A',ι',dN,z⟩=>⟨_,by omega,rfl,D,A',ι',dN,z⟩,λx H3 y=>?_⟩;obtain⟨p,t,v3⟩:=g2 x H3 y;refine⟨B,c,C,items[i],_,d.next p t,v3,h,λE A4 F Gi H4 q4 u G s4=>?_⟩;have a:=p.trans u;refine⟨A4,F,E,_,(d.next p t).to u G s4,q4,⟨?_,k.rt.from ((s.trans f).trans a),k.nx.from ((s.trans f).trans a),?_⟩⟩
  .exact λj I l K H5 L r M s5=>⟨I,l,j,((d.next p t).to u G s4).to r M s5,(f.trans a).trans r,L⟩
  .exact λj I l K H5 L r M s5=>⟨I,l,j,((d.next p t).to u G s4).to r M s5,(f.trans a).trans r,L⟩
 .left
  have e:i=items.length:=by omega
  subst e;rw[List.drop_length] at h;exact⟨P.stop B c H2 f d.ra h.1,(k.nx.from (s.trans f)).here d h.2⟩
def qS:Option Nat->D->Option (List D)
 |none,x=>some [x]
 |some k,.tup ds=>if ds.length=k then some ds else none
 |some _,_=>none
def je(cG:Ar->Prop)(k:Option Nat)(fr:bw)(tt:cX)(te:aM)(R:List D->Ar->Prop):List D->List D->Ar->Prop
 |[],ys,A=>cG A/\R ys A
 |x::xs,ys,A=>cG A/\match qS k x with
  |some vs=>tt (vs.map some++fr) A λb A3=>cond b (te (vs.map some++fr) A3 λy A4=>ys.length<sizeLine/\je cG k fr tt te R xs (ys++[y]) A4) (je cG k fr tt te R xs ys A3)
  |none=>False
def sJ(k:Option Nat)(ix:List Nat)(it:gK)(tt:cX)(te:aM):aM:=λτ A R=>it τ A λitems cG A1=>je cG k (ix.map (lk τ)) tt te (λys A2=>R (.ref A2.length) (A2++[.lst ys])) items [] A1
def ku:Nat->Nat->jZ
 |_,0=>AF
 |i,n+1=>AE (kr i) (ku (i+1) n)
def qN(K:Frag):Option Nat->TG
 |none=>kr 0
 |some k=>AG K k (ku 0 k)
theorem tZ{Q:L2.St->Hp->Prop}{H:Hp}{fs:L2.St}:∀(xs:List V) (a:L2.St),Q (a++(xs.map some++fs)) H->ku a.length xs.length xs (a++(replicate xs.length none++fs)) H Q
 |[],a,h=>⟨rfl,by simpa using h⟩
 |x::r,a,h=>by
  refine⟨x,r,rfl,?_⟩;show ku (a.length+1) r.length r ((a++(replicate (r.length+1) none++fs)).set a.length (some x)) H Q;have e:(a++(replicate (r.length+1) none++fs)).set a.length (some x)=(a++[some x])++(replicate r.length none++fs):=by
   rw[List.set_append_right _ _ (aC _)];simp[List.replicate_succ]
  rw[e];have:=tZ r (a++[some x]) (by simpa using h);simpa using this
theorem uC{fs:L2.St}:∀(xs:L2.St),dB (replicate xs.length none++fs) (xs++fs)
 |[]=>dB.refl fs
 |x::r=>.own (uC r)
section
variable{mg:aq}{K:Frag}{A:Ar}{ι:Io}{H:Hp}
theorem FQ{k:Option Nat}{d:D}{vs:List D}{x:V}{n:Nat}(b:qS k d=some vs)(r:RV mg ι n H d x):∃xs,ak mg ι n H vs xs/\vs.length=k.getD 1/\∀(fs:L2.St) (Q:L2.St->Hp->Prop),Q (xs.map some++fs) H->qN K k x (replicate (k.getD 1) none++fs) H Q:=by
 cases k with
 |none=>
  cases b;exact⟨[x],⟨x,[],rfl,r,rfl⟩,rfl,λfs Q q=>q⟩
 |some k=>
  cases d with
  |tup ds=>
   have b:(if ds.length=k then some ds else none)=some vs:=b;by_cases c:ds.length=k
   .rw[ai c] at b
    cases b;obtain⟨a,xs,rfl,h1,h2⟩:=r;have f:=ak.length h2;refine⟨xs,h2,c,λfs Q q=>⟨a,xs,rfl,bg.of h1,by rw[<-f];exact c,?_⟩⟩;have:=tZ (Q:=Q) (H:=H) (fs:=fs) xs [] q;show ku 0 k xs (replicate k none++fs) H Q;have e:k=xs.length:=by rw[<-f,c]
    rw[e];exact this
   .rw[aj c] at b
    cases b
  |_=>cases b
theorem RA.off(R:RA mg ι H A){p:Addr}{o u:HO}(a:∀r,r<A.length->ι r≠p)(d:H p=some u)(e:fB u=true):RA mg ι (upd H p o) A:=
 ⟨λr c h=>CO.ag (aC _) (λ_ _=>rfl) (λb q m z=>by
  rw[bh]
  .exact z
  .rintro rfl
   rw[d] at z;cases z;rw[e] at m;cases m) (λq z=>by rw[bh (a r (b6.mp h).1)];exact z) c (R.eS r c h),R.inj⟩
end
theorem E9{own:List Str}{ix:List Nat}{σ:L2.St}:L2.stC own ix σ=replicate own.length none++ix.map λi=>(σ[i]?).join:=by
 unfold L2.stC;rw[List.map_const']
theorem uM:∀(ds:List D) (fr:bw) (i:Nat) (d:D),lk (ds.map some++fr) i=some d->(ds[i]?=some d)\/(ds.length<=i/\lk fr (i - ds.length)=some d)
 |[],fr,i,d,h=>.inr ⟨ck _,by simpa using h⟩
 |x::r,fr,0,d,h=>.inl (by simpa[lk] using h)
 |x::r,fr,i+1,d,h=>by
  rcases uM r fr i d (by simpa[lk] using h) with q|⟨a,b⟩
  .exact .inl (by simpa using q)
  .exact .inr ⟨by simpa using a,by simpa using b⟩
theorem RS.block{mg:aq}{ι:Io}{n:Nat}{H:Hp}{τ:bw}{σ:L2.St}{ix:List Nat}{vs:List D}{xs:List V}(r:RS mg ι n H τ σ)(h:ak mg ι n H vs xs):RS mg ι n H (vs.map some++ix.map (lk τ)) (xs.map some++ix.map λi=>(σ[i]?).join):=⟨by simp[ak.length h],λi d q=>by
 have b:=ak.length h;rcases uM vs _ i d q with q|⟨c,a⟩
 .obtain⟨v,h1,h2⟩:=ak.get h q
  have hi:=(b6.mp h1).1;exact⟨v,by rw[e9 (by simpa using hi),bD,h1];rfl,h2⟩
 .rw[mU,bD] at a
  cases e:ix[i - vs.length]? with
  |none=>rw[e] at a;simp at a
  |some j=>
   rw[e] at a;have a:lk τ j=some d:=by simpa using a
   obtain⟨v,h1,h2⟩:=r.at' j d a;refine⟨v,?_,h2⟩;rw[ir (by simpa[<-b] using c),bD,bA,<-b,e];simp[h1]⟩
section
variable{X:Cx}{N:En}{own frees:List Str}{ix:List Nat}{it:gK}{tt:cX}{te:aM}{k:Option Nat}
theorem F7(hk:own.length=k.getD 1){tT:CP->TT}(hT:∀c σ H Q,bZ X.mg N tt σ H Q->tT c σ H Q){σ:L2.St}{H:Hp}{Q:VK}(q:up X.mg N (sJ k ix it tt te) σ H Q):w_ own ix (ly X.mg N it) (λ_=>qN X.K k) tT (λ_=>up X.mg N te) σ H Q:=by
 obtain⟨A,ι,τ,R,S,q,kq⟩:=q;refine⟨A,ι,τ,_,S,q,λitems Y A1 G H1 J q1 e1 r1 j1 c a g=>?_⟩;have S1:=S.next e1 r1;rw[E9,hk];have Z:∀r,r<A1.length->G r≠a:=λr p z=>by
  obtain⟨o,h1,_⟩:=r1.im r p;rw[z,g] at h1;cases h1
 have rn:=r1.tK (o:=.lst []) g;refine⟨λi m ys H'=>m=items.length - i/\i<=items.length/\∃A' ι' f,RA X.mg ι' H' A'/\Ext A1 G H1 A' ι' H'/\(∀r,r<A'.length->ι' r≠a)/\H' a=some (.lst ys)/\ak X.mg ι' A'.length H' f ys/\je Y k (ix.map (lk τ)) tt te (λys d=>R (.ref d.length) (d++[.lst ys])) (items.drop i) f A',
  ⟨_,rfl,ck _,A1,G,[],r1.fix rn (λb o z=>by rw[bh (c5 z g)];exact z),rn,Z,gZ,rfl,by simpa using q1⟩,?_⟩
 rintro i m ys H2 ⟨rfl,hi,d,j,f,r2,E,n,hy,ry,F⟩;refine⟨hy,?_⟩;by_cases I:i<items.length
 .right
  have hd:items.drop i=items[i]::items.drop (i+1):=by rw[lK I]
  rw[hd] at F;obtain⟨w,F⟩:=F;obtain⟨g1,g2⟩:=j1.go i items[i] d j H2 (by rw[bf I]) E r2 w;refine⟨g1,λP H'=>∃A' ι' M,RA X.mg ι' H' A'/\Ext A1 G H1 A' ι' H'/\(∀r,r<A'.length->ι' r≠a)/\H' a=some (.lst P)/\ak X.mg ι' A'.length H' M P/\je Y k (ix.map (lk τ)) tt te (λys d=>R (.ref d.length) (d++[.lst ys])) (items.drop (i+1)) M A',λP H' z=>⟨_,by omega,rfl,I,z⟩,λx H3 y=>?_⟩;obtain⟨e3,r3,v3⟩:=g2 x H3 y;split at F
  .rename_i vs hu
   obtain⟨xs,h1,h2,h3⟩:=FQ (K:=X.K) hu v3;refine h3 _ _ ⟨by have:=uC (fs:=ix.map λi=>(σ[i]?).join) (xs.map some);rw[bA,<-ak.length h1,h2] at this;exact this,?_⟩;have L:=E.trans e3;have S3:cC X.mg N d j (vs.map some++ix.map (lk τ)) (xs.map some++ix.map λi=>(σ[i]?).join) H3:=⟨r3,RS.block (S1.rs.ext L) h1,S1.ex.trans L⟩;have ur:H3 a=some (.lst ys):=e3.mo a _ hy n;refine hT _ _ _ _ ⟨d,j,_,_,S3,F,λb A4 T H4 q4 U r4=>?_⟩;have B:∀r,r<A4.length->T r≠a:=λr p z=>by
    by_cases I:r<d.length
    .rw[U.ag r I] at z;exact n r I z
    .have:=U.nw r (by omega) p
     rw[z,ur] at this;cases this
   have V:H4 a=some (.lst ys):=U.mo a _ ur n;have vZ:=ak.ext (e3.trans U) f ys ry;cases b with
   |true=>
    refine Br ?_;refine⟨A4,T,_,_,S3.next U r4,q4,λv A5 xF H5 u q5 e5 r5 v5=>?_⟩;have W:H5 a=some (.lst ys):=e5.mo a _ V B;have O:∀r,r<A5.length->xF r≠a:=λr p z=>by
     by_cases I:r<A4.length
     .rw[e5.ag r I] at z;exact B r I z
     .have:=e5.nw r (by omega) p
      rw[z,V] at this;cases this
    have v7:=ak.ext e5 f ys vZ;have t:=(L.trans U).trans e5;have fx:∀b o,fB o=false->H5 b=some o->upd H5 a (.lst (ys++[u])) b=some o:=λb o m z=>by
     rw[bh]
     .exact z
     .rintro rfl
      rw[W] at z;cases z;cases m
    refine⟨W,by rw[<-ak.length v7];exact q5.1,A5,xF,f++[v],r5.off O W rfl,⟨t.len,t.ag,t.im,λb o z hn=>?_,t.nw,λb o z=>?_⟩,O,gZ,?_,q5.2⟩
    .rw[bh (c5 z g)];exact t.mo b o z hn
    .obtain⟨o',h'⟩:=t.al b o z
     exact⟨o',by rw[bh (c5 z g)];exact h'⟩
    .exact ak.ag (aC _) (λ_ _=>rfl) fx _ _ (v7.app (es:=[v]) (ws:=[u]) ⟨u,[],rfl,v5,rfl⟩)
   |false=>
    refine Bq ?_;exact⟨A4,T,f,r4,L.trans U,B,V,vZ,q4⟩
  .exact F.elim
 .left
  have e:i=items.length:=by omega
  subst e;rw[List.drop_length] at F;obtain⟨w,F⟩:=F;refine⟨j1.stop d j H2 E r2 w,?_⟩;obtain⟨D,l,at2⟩:∃D:Io,(∀r,r<d.length->D r=j r)/\D d.length=a:=⟨λr=>if r=d.length then a else j r,λr h=>by
   show(if r=d.length then a else j r)=j r;rw[aj (by omega)],by
   show(if d.length=d.length then a else j d.length)=a;rw[ai rfl]⟩
  refine kq (.ref d.length) (d++[.lst f]) D H2 _ F (e1.trans ⟨by have:=E.len;simp;omega,λr h=>by rw[l r (bO h E.len)];exact E.ag r h,E.im,E.mo,λr h1 h2=>?_,E.al⟩) ⟨λr c h=>?_,λr s p hs h=>?_⟩ ⟨by simp,by rw[at2]⟩
  .by_cases p:r<d.length
   .rw[l r p];exact E.nw r h1 p
   .have:r=d.length:=by simp at h2;omega
    subst this;rw[at2];exact g
  .by_cases p:r<d.length
   .rw[e9 p] at h
    have:=CO.ag (n':=(d++[C.lst f]).length) (ι':=D) (H':=H2) (by simp) l (λ_ _ _ z=>z) (λ_ z=>z) c (r2.eS r c h);rw[l r p];exact this
   .have hr':r=d.length:=by
     have:=(b6.mp h).1;simp at this;omega
    subst hr';simp at h;subst h;rw[at2];exact⟨ys,hy,ak.ag (by simp) l (λ_ _ _ z=>z) f ys ry⟩
  .simp at p hs
   by_cases h1:r=d.length
   .by_cases h2:s=d.length
    .rw[h1,h2]
    .subst h1
     rw[at2,l s (by omega)] at h;exact absurd h.symm (n s (by omega))
   .by_cases h2:s=d.length
    .subst h2
     rw[at2,l r (by omega)] at h;exact absurd h (n r (by omega))
    .rw[l r (by omega),l s (by omega)] at h
     exact r2.inj r s (by omega) (by omega) h
end
def xm:cX:=λ_ A R=>R true A
section
variable{X:Cx}{N:En}{own frees:List Str}{ix:List Nat}{it:gK}{tt:cX}{te:aM}(k:Option Nat){tg iter elt Gm:Expr}{scope:Scope}{pos:Pos}
theorem zx(hk:own.length=k.getD 1)(hi:PI X tg iter (ly X.mg N it))(a:∀c,PG (bC X (own++frees) scope c) tg (qN X.K k))(b:∀c,PE (bC X (own++frees) scope c) elt (up X.mg N te))(S:c6 X scope frees:=by exact⟨rfl,by decide+kernel,by decide+kernel,by decide+kernel,by decide+kernel,rfl⟩)(hc:X.calm=true:=by rfl)(d:ix.map (λi=>X.N[i]?)=frees.map some:=by rfl)(hs:∀x,foldedSetIterable iter X.env x=pure x:=by intro _;rfl):
  PE X (.ListComp elt [⟨tg,iter,[],0⟩] scope pos) (up X.mg N (sJ k ix it xm te)):=
 cZ (Dq hi a (λc=>gM.nil) b S hc d hs) λσ H Q q=>F7 (own:=own) hk (λ_ σ H Q h=>by
  obtain⟨A,ι,τ,R,S,h,k⟩:=h;exact k.here S.ra h) q
variable{i:Nat}{x:Str}{pos' spos:Pos}
end
abbrev jV:=bw->Ar->(Option Int->Ar->Prop)->Prop
def nV(mg:aq)(N:En)(m:jV):TO:=λσ H Q=>∃A ι τ R,cC mg N A ι τ σ H/\m τ A R/\∀o A' ι' H',R o A'->Ext A ι H A' ι' H'->RA mg ι' H' A'->Q o H'
def oN:jV:=λ_ A R=>R none A
def oS(m:aM):jV:=λτ A R=>m τ A λx A1=>match x with
 |.int i=>R (some i) A1
 |_=>False
def cutD(xs:List D)(lo hi:Option Int):List D:=(xs.drop (HT.aE xs.length 0 lo)).take (HT.aE xs.length xs.length hi - HT.aE xs.length 0 lo)
theorem ak.cut{mg:aq}{ι:Io}{H:Hp}{n:Nat}{ds:List D}{vs:List V}(r:ak mg ι n H ds vs)(lo hi:Option Int):ak mg ι n H (cutD ds lo hi) (gO vs lo hi):=by
 unfold cutD gO;rw[<-ak.length r];exact(r.drop _).take _
@[irreducible] def qI(r:Nat)(lo hi:Option Int)(A:Ar)(R:DK):Prop:=match A[r]? with
 |some (.lst xs)=>R (.ref A.length) (A++[.lst (cutD xs lo hi)])
 |_=>False
def ET(x:D)(lo hi:Option Int)(A:Ar)(R:DK):Prop:=match x with
 |.tup xs=>¬(HT.aE xs.length 0 lo=0/\HT.aE xs.length xs.length hi=xs.length)/\R (.tup (cutD xs lo hi)) A
 |.ref r=>qI r lo hi A R
 |_=>False
def ze(m:aM)(l u:jV):aM:=λτ A R=>m τ A λx A1=>l τ A1 λlo A2=>u τ A2 λhi A3=>ET x lo hi A3 R
section
variable{X:Cx}{N:En}{pos p2:Pos}{e:Expr}{lo hi:Option Expr}{m:aM}{l u:jV}
theorem sW{t t':TO}(h:PO X lo t)(w:∀σ H Q,t' σ H Q->t σ H Q):PO X lo t':=λpins s σ H Q I q=>h pins s σ H Q I (w σ H Q q)
theorem zL:PO X none (nV X.mg N oN):=sW DQ λσ H Q q=>by
 obtain⟨A,ι,τ,R,S,q,k⟩:=q;exact k none A ι H q S.ra.refl S.ra
theorem zM(h:PE X e (up X.mg N m)):PO X (some e) (nV X.mg N (oS m)):=sW (DR h) λσ H Q q=>by
 obtain⟨A,ι,τ,R,S,q,k⟩:=q;refine⟨A,ι,τ,_,S,q,λx c a H1 u b d f g=>?_⟩;cases x with
 |int i=>exact⟨i,g,k (some i) c a H1 b d f⟩
 |_=>exact b.elim
theorem zB(t:PE X e (up X.mg N m))(w:PO X lo (nV X.mg N l))(y:PO X hi (nV X.mg N u)):PE X (.Subscript e (.Slice lo hi none p2) pos) (up X.mg N (ze m l u)):=
 cZ (DA (EV.or EU) t w y) λσ H Q q=>by
  obtain⟨A,ι,τ,R,S,q,k⟩:=q;refine⟨A,ι,τ,_,S,q,λx z d H1 v B f n C=>?_⟩;refine⟨z,d,τ,_,S.next f n,B,λD E g H2 F h G=>?_⟩;refine⟨E,g,τ,_,(S.next f n).next h G,F,λI J K M b o i=>?_⟩;have c:=(f.trans h).trans o;have s:=RV.ext (h.trans o) x v C;cases x with
  |tup ds=>
   obtain⟨a,xs,rfl,h1,h2⟩:=s;refine .inl ⟨a,xs,rfl,bg.of h1,by rw[<-ak.length h2];exact b.1,λp j=>qm (k.from c) i (h2.cut _ _) b.2 j⟩
  |ref r=>
   obtain⟨_,rfl⟩:=s;have b:qI r D I J R:=b;unfold qI at b;split at b
   .rename_i xs e
    obtain⟨L,h1,h2⟩:=i.lst e;exact .inr ⟨_,L,rfl,aX.of h1,λp j=>m8 (k.from c) i (h2.cut _ _) b j⟩
   .exact b.elim
  |_=>exact b.elim
end
def wZ:List D->Option (List Str)
 |[]=>some []
 |.str b::r=>(wZ r).map (b::·)
 |_::_=>none
@[irreducible] def GD(r:Nat)(A:Ar)(R:DK):Prop:=match A[r]? with
 |some (.lst xs)=>(match wZ xs with
  |some ss=>ss.length<64/\∀ys:List Str,ys.Pairwise strLt->(∀x,x∈ys↔x∈ss)->R (.ref A.length) (A++[.lst (ys.map D.str)])
  |none=>False)
 |_=>False
theorem BP{K:Frag}:∀t∈tys,kitOne K (.type t) (.type "bool")=some (gV t "bool"):=by
 intro t a;simp only[tys,aR,eW,eY] at a;rcases a with rfl|rfl|rfl|rfl|rfl|rfl|rfl<;>rfl
theorem BQ{K:Frag}:∀t∈tys,kitOne K (.type t) (.type "int")=some (gV t "int"):=by
 intro t a;simp only[tys,aR,eW,eY] at a;rcases a with rfl|rfl|rfl|rfl|rfl|rfl|rfl<;>rfl
theorem uB{K:Frag}:∀t∈tys,kitOne K (.type t) (.type "str")=some (gV t "str"):=by
 intro t a;simp only[tys,aR,eW,eY] at a;rcases a with rfl|rfl|rfl|rfl|rfl|rfl|rfl<;>rfl
theorem kit_tuple{K:Frag}:∀t∈tys,kitOne K (.type t) (.type "tuple")=some (gV t "tuple"):=by
 intro t a;simp only[tys,aR,eW,eY] at a;rcases a with rfl|rfl|rfl|rfl|rfl|rfl|rfl<;>rfl
theorem cI{b:Bool}{X Y:Prop}(h1:b=true->X)(h2:b=false->Y):cond b X Y:=by
 cases b with
 |true=>exact h1 rfl
 |false=>exact h2 rfl
theorem cD{p:Prop}[Decidable p]{X Y:Prop}(h1:p->X)(h2:¬p->Y):cond (decide p) X Y:=cI (λe=>h1 (of_decide_eq_true e)) λe=>h2 (of_decide_eq_false e)
theorem cN{p:Prop}[Decidable p]{X Y:Prop}(h1:¬p->X)(h2:p->Y):cond (!decide p) X Y:=cI (λe=>h1 (of_decide_eq_false (by simpa using e))) λe=>h2 (of_decide_eq_true (by simpa using e))
def bG(t:Nat)(A A':Ar):Prop:=∀q c,q≠t->A[q]?=some c->A'[q]?=some c
theorem bG.refl{t:Nat}{A:Ar}:bG t A A:=λ_ _ _ h=>h
theorem bG.trans{t:Nat}{A B C:Ar}(a:bG t A B)(b:bG t B C):bG t A C:=λq c n h=>b q c n (a q c n h)
theorem bG.push{t:Nat}{A:Ar}{T:Ar}:bG t A (A++T):=λq c _ h=>by
 have:=(b6.mp h).1;rw[e9 this];exact h
theorem bG.set{t:Nat}{A:Ar}{c:C}:bG t A (A.set t c):=λq d n h=>by rw[lM (Ne.symm n)];exact h
def Tw(t n:Nat)(A:Ar):Prop:=∃xs,A[t]?=some (.lst xs)/\xs.length<=n
theorem Tw.mono{t n m:Nat}{A:Ar}(h:Tw t n A)(l:n<=m):Tw t m A:=let ⟨xs,a,b⟩:=h;⟨xs,a,cO b l⟩
theorem getElem?_push{A T:Ar}{q:Nat}{c:C}(h:A[q]?=some c):(A++T)[q]?=some c:=by
 have:=(b6.mp h).1;rw[e9 this];exact h
def Gr(A A':Ar):Prop:=∃T,A'=A++T
theorem Gr.refl{A:Ar}:Gr A A:=⟨[],by simp⟩
theorem Gr.push{A T:Ar}:Gr A (A++T):=⟨T,rfl⟩
theorem Gr.trans{A B C:Ar}(a:Gr A B)(b:Gr B C):Gr A C:=by
 obtain⟨T,rfl⟩:=a;obtain⟨c,rfl⟩:=b;exact⟨T++c,by simp⟩
theorem Gr.get{A B:Ar}(a:Gr A B){q:Nat}{c:C}(h:A[q]?=some c):B[q]?=some c:=by
 obtain⟨T,rfl⟩:=a;exact getElem?_push h
theorem Gr.but{A B:Ar}{t:Nat}(a:Gr A B):bG t A B:=λ_ _ _ h=>a.get h
theorem Tw.gr{A B:Ar}{t n:Nat}(h:Tw t n A)(a:Gr A B):Tw t n B:=let ⟨xs,x,y⟩:=h;⟨xs,a.get x,y⟩
def rF:Ct:=λds A R _=>∃ns k,ds=[.fl ns,.int k]/\0<=k/\∀i A',Gr A A'->R (.int i) A'
def rN:Ct:=λds A R _=>∃ns k m,ds=[.fl ns,.int k,.int m]/\0<=k/\0<m/\∀i A',0<=i->i<m->Gr A A'->R (.int i) A'
def jY:Ct:=λds A R _=>∃ns t m n,ds=[.fl ns,.ref t,.int m]/\Tw t n A/\n<1000000/\0<m/\∀i A',0<=i->i<m->bG t A A'->Tw t (n+1) A'->R (.int i) A'
def lU:Ct:=λds A R _=>∃ns t q xs n,ds=[.fl ns,.ref t,.ref q]/\q≠t/\A[q]?=some (.lst xs)/\xs≠[]/\Tw t n A/\n<1000000/\∀x A',x∈xs->bG t A A'->Tw t (n+1) A'->R x A'
theorem lY{α:Type}{xs:List α}{k:Int}(h0:0<=k)(h:k<(xs.length:Int)):∃v,bK xs k=some v/\v∈xs:=by
 have hk:k.toNat<xs.length:=by omega
 refine⟨xs[k.toNat],?_,bM hk⟩;unfold bK gn;rw[ai h0,ai h];simp[bf hk]
theorem lay_ints:∀ns:List Int,canLayAll0 (ns.map PyData.int)=true
 |[]=>by simp[canLayAll0]
 |n::r=>by simp[canLayAll0,canLay0,lay_ints r]
theorem dU{A:Ar}{c:C}:(A++[c])[A.length]?=some c:=by simp
theorem z8{ns:List Int}{A:Ar}{R:DK}(h:R (.bl (decide (ns=[]))) (A++[.lst []])):fM false (.fl ns) (.ref A.length) (A++[.lst []]) R:=by
 unfold fM;have a:dM (A++[.lst []]) (.ref A.length)=.list []:=by unfold dM;simp only[dU];rfl
 have b:dM (A++[.lst []]) (.fl ns)=.list (ns.map PyData.int):=by unfold dM;rfl
 refine⟨rfl,?_,?_,?_,?_,?_⟩
 .unfold jy;simp only[dU];rfl
 .rw[b];simpa[canLay0] using lay_ints ns
 .rw[a];simp[canLay0,canLayAll0]
 .rw[a];simp[PyData.depth,depthAll];omega
 .rw[b,a]
  have e:PyData.eqv (.list (ns.map PyData.int)) (.list [])=decide (ns=[]):=by cases ns<;>simp[PyData.eqv,eqvAll]
  rw[aj b7,e];exact h
section
variable{A:Ar}{r q t:Nat}{xs ys:List D}{kvs:List (Key×D)}{R:DK}
theorem pY(h:A[r]?=some (.lst xs)):iK A (.ref r)=true:=by unfold iK;simp only[h]
theorem rZ{y:D}(h:A[r]?=some (.lst xs))(a:xs.length<sizeLine)(k:R .aJ (A.set r (.lst (xs++[y])))):lV r y A R:=by
 unfold lV;simp only[h];exact⟨a,k⟩
theorem Ac(h:A[r]?=some (.lst xs))(h2:A[q]?=some (.lst ys))(a:xs.length+ys.length<=sizeLine)(k:R .aJ (A.set r (.lst (xs++ys)))):mD r q A R:=by
 unfold mD;simp only[h,h2];exact⟨a,k⟩
theorem kF(h:A[r]?=some (.lst xs))(k:R (.int xs.length) A):mT r A R:=by
 unfold mT;simp only[h];exact k
theorem ux{i:Int}{v:D}(h:A[r]?=some (.lst xs))(hi:bK xs i=some v)(k:R v A):kD r (.int i) A R:=by
 unfold kD;simp only[h,hi];exact k
theorem get_set(h:A[t]?=some (.lst xs)):(A.set t (.lst ys))[t]?=some (.lst ys):=by
 rw[lN (b6.mp h).1]
theorem iP{c:C}(h:A[t]?=some c):t<A.length:=(b6.mp h).1
end
open MA
abbrev M:=bI Str
def enc:M->D
 |.wt n=>.tup [.str "weight",.str n]
 |.ah l r a b=>.tup [.str "rod",.int l,.int r,enc a,enc b]
theorem sE{k:Option Nat}{fr:bw}{te:aM}{a:Ar->Prop}{R:List D->Ar->Prop}{A:Ar}(hc:a A)(f:D->D):∀(items ys:List D),(∀x∈items,∃vs,qS k x=some vs/\∀Q:DK,Q (f x) A->te (vs.map some++fr) A Q)->ys.length+items.length<=sizeLine->R (ys++items.map f) A->je a k fr xm te R items ys A
 |[],ys,_,_,h=>⟨hc,by simpa using h⟩
 |x::xs,ys,b,c,h=>by
  obtain⟨vs,d,e⟩:=b x (cP ..);refine⟨hc,?_⟩;rw[d];refine e _ ⟨by simp at c;omega,sE hc f xs (ys++[f x]) (λy g=>b y (cz _ g)) (by simp at c ⊢;omega) (by simpa using h)⟩
theorem sr{α:Type}(f:α->Bool):∀xs:List α,fm (xs.map λx=>D.bl (f x))=some (xs.map f)
 |[]=>rfl
 |x::r=>by simp[fm,sr f r]
theorem x9{A:Ar}{r:Nat}{xs:List D}{bs:List Bool}{R:DK}(h:A[r]?=some (.lst xs))(a:fm xs=some bs)(k:R (.bl (bs.all id)) A):allR r A R:=by
 unfold allR;simp only[h,a];exact k
theorem uv{A:Ar}{r:Nat}{xs:List D}{R:List D->(Ar->Prop)->Ar->Prop}(h:A[r]?=some (.lst xs))(k:R xs (λA'=>A'[r]?=some (.lst xs)) A):itR r A R:=by
 unfold itR;simp only[h];exact k
structure Nm(n:Str):Prop where
 lo:1<=n.length
 hi:n.length<=3
 az:∀c∈n.cps.toList,97<=c/\c<=122
structure Wf(m:M):Prop where
 arms:m.arms
 nm:∀n∈m.names,Nm n
def SV(dom:List D->D->Prop):Ct:=λds A R _=>∃v,dom ds v/\∀A',Gr A A'->R v A'
abbrev rQ:Ct:=SV λds v=>∃i a b,ds=[.int i,.int a,.int b]/\v=.bl (decide (a<=i)&&decide (i<=b))
abbrev rP:Ct:=SV λds v=>∃n,ds=[.str n]/\Nm n/\v=.bl true
abbrev rK(d:Nat):Ct:=SV λds v=>∃m,ds=[enc m,.int ((d:Int) - 1)]/\Wf m/\m.deep<d/\v=.bl true
abbrev rJ:Ct:=SV λds v=>∃m,ds=[enc m]/\Wf m/\m.deep<=5/\v=.bl true
abbrev oO:Ct:=SV λds v=>∃m,ds=[enc m]/\Wf m/\m.deep<=5/\v=.aJ
theorem iI{P:Program}{w:World}{K:Frag}{mg:aq}{base:Heap}{x:Str}{st:Stmt}{ps:List Str}{k n:Nat}{S:Ct}(T:TopD K mg x st ps)(no:∀ds A R RE,¬S ds A R RE):aG P w K mg base k x ps (aH mg n S):=by
 obtain⟨f,fd,F,b,m⟩:=T;have a:∀vs H Q E,¬aH mg n S vs H Q E:=λvs H Q E h=>by
  obtain⟨A,ι,ds,R,RE,_,_,_,z,_⟩:=h;exact no _ _ _ _ z
 exact⟨f,fd,⟨λvs H Q E h=>absurd h (a vs H Q E),λA outer s H args c vs Q E _ _ _ _ h=>absurd h (a vs H Q E)⟩,b,F.kp,m⟩
theorem Nm.ok{n:Str}(h:Nm n):canLay0 (.str n)=true:=by
 have e:n.cps.all (λc=>decide (c<0x110000))=true:=by
  rw[<-Array.all_toList,all_eq_true];intro c hc;have:=h.az c hc;exact lJ (by omega)
 simpa[canLay0,PyData.strOk] using e
theorem Gr.len{A B:Ar}(a:Gr A B):A.length<=B.length:=by
 obtain⟨T,rfl⟩:=a;simp
def cst(d:Nat):Nat:=5*2 ^ d - 4
theorem yM(d:Nat):cst (d+1)=4+2*cst d:=by
 unfold cst;have:0<2 ^ d:=pow_pos (by decide);rw[pow_succ];omega
theorem yL(d:Nat):1<=cst d:=by
 unfold cst;have:0<2 ^ d:=pow_pos (by decide);omega
structure Dr(t:Nat)(A A':Ar)(n k:Nat):Prop where
 but:bG t A A'
 tw:Tw t (n+k) A'
def rO(d:Nat):Ct:=λds A R _=>∃ns t q nms n,ds=[.fl ns,.ref t,.ref q,.int ((d:Int) - 1)]/\0<d/\q≠t/\A[q]?=some (.lst (nms.map D.str))/\nms≠[]/\(∀x∈nms,Nm x)/\Tw t n A/\n+cst d<=1000000/\∀m A',Wf m->m.deep<d->(∀x∈m.names,x∈nms)->Dr t A A' n (cst d)->R (enc m) A'
def rG(d:Nat):Ct:=λds A R _=>∃m q n,ds=[enc m,.ref q]/\Wf m/\m.deep<d/\d<=8/\Tw q n A/\n+2 ^ d<=1000000/\∀m' A',Wf m'->m'.deep=m.deep->Dr q A A' n (2 ^ d)->R (enc m') A'
theorem BA{z:Str}{i:Int}{c:Nat}{A:Ar}{R:DK}(h:bK z.cps.toList i=some c)(a:z.length<=sizeLine)(k:R (.str ⟨#[c]⟩) A):kC (.str z) (.int i) A R:=by
 show(match bK z.cps.toList i with|some c=>z.length<=sizeLine/\R (.str ⟨#[c]⟩) A|none=>False);rw[h];exact⟨a,k⟩
def rR(d:Nat):Ct:=λds A R _=>∃ns t n,ds=[.fl ns,.ref t,.int ((d:Nat):Int)]/\Tw t n A/\n+200<=1000000/\∀m A',Wf m->m.deep<=d->Dr t A A' n 200->R (enc m) A'
theorem yK{d:Nat}(h:d<=4):cst (d+1)<=156:=by
 have e:d=0\/d=1\/d=2\/d=3\/d=4:=by omega
 rcases e with rfl|rfl|rfl|rfl|rfl<;>decide
theorem Wf.left{l r:Int}{a b:M}(h:Wf (.ah l r a b)):Wf a:=⟨h.arms.2.2.2.2.1,λn hn=>h.nm n (by simp[bI.names,hn])⟩
theorem Wf.right{l r:Int}{a b:M}(h:Wf (.ah l r a b)):Wf b:=⟨h.arms.2.2.2.2.2,λn hn=>h.nm n (by simp[bI.names,hn])⟩
end DP
namespace DP
open L2
theorem ak.of_get{mg:aq}{ι:Io}{H:Hp}{n:Nat}:∀{ds:List D} {vs:List V},ds.length=vs.length->(∀(i:Nat) d v,ds[i]?=some d->vs[i]?=some v->RV mg ι n H d v)->ak mg ι n H ds vs
 |[],[],_,_=>rfl
 |[],_::_,h,_=>by cases h
 |_::_,[],h,_=>by cases h
 |d::ds,v::vs,h,k=>⟨v,vs,rfl,k 0 d v rfl rfl,ak.of_get (by simpa using h) λi d v h1 h2=>k (i+1) d v (by simpa using h1) (by simpa using h2)⟩
open MA
theorem pI{a:Ar->Prop}{g:iz}{b:cW}{R:jT}(J:List D->bw->Ar->Prop)(hc:∀rest τ A,J rest τ A->a A)
  (hs:∀x rest τ A,J (x::rest) τ A->∀c:bw->Ar->Prop,(∀dN A',J rest dN A'->c dN A')->g x τ A λd f=>b {R with nx:=c,ct:=c,bk:=R.nx} d f)(e:∀τ A,J [] τ A->R.nx τ A):∀(items:List D) (τ:bw) (A:Ar),J items τ A->jg a g b R items τ A
 |[],τ,A,j=>⟨hc _ _ _ j,e _ _ j⟩
 |x::rest,τ,A,j=>⟨hc _ _ _ j,hs _ _ _ _ j _ λdN A' h=>pI J hc hs e rest dN A' h⟩
theorem Gr.CS{A a A':Ar}{t:Nat}(g:Gr A a)(d:A.length<=t)(b:bG t a A'):Gr A A':=by
 have key:∀q c,A[q]?=some c->A'[q]?=some c:=λq c h=>b q c (by have:=iP h;omega) (g.get h);refine⟨A'.drop A.length,List.ext_getElem? λq=>?_⟩;by_cases hq:q<A.length
 .rw[e9 hq,bf hq]
  exact key q _ (bf hq)
 .rw[ir (by omega),List.getElem?_drop]
  congr 1;omega
end DP
namespace L2
open PySem.SeqAt
def iw(op:CmpOp)(A:Around)(s:Shared)(y x:Value)(b:Bool):Prop:=∀(prog:Program) (w:World) (E:aA) (Q:aA),Q (.bool b) s->wpAny (model prog w) A (richCompare op y x) Q E s
inductive fj(op:CmpOp)(A:Around)(s:Shared)(fin b:Bool):List (Value×Value)->Prop
 |nil:fin=b->fj op A s fin b []
 |eq {y x:Value} {r:List (Value×Value)}:EqAt A s y x true->fj op A s fin b r->fj op A s fin b ((y,x)::r)
 |ne {y x:Value} {r:List (Value×Value)}:EqAt A s y x false->iw op A s y x b->fj op A s fin b ((y,x)::r)
open MeetsSeq MeetsSeq2 MeetsSeq3 SeqRoads2
theorem FY(l b:Addr)(items a:Array Value)(n m:Nat)(dd f:Option Addr)(o i:Array (Option Value))(res:Bool):
  Meets (Builtin.«tuple.__lt__» ⟨[.ref l,.ref b],[]⟩)
   (λA R s=>s.heap.get? l=some {cls:=.type "tuple",dict:=dd,data:=.seq items n,slots:=o}/\s.heap.get? b=some {cls:=.type "tuple",dict:=f,data:=.seq a m,slots:=i}/\
    fj .Lt A.in1 s (decide (items.size<a.size)) res (items.toList.zip a.toList)/\R (.ok (.ret (.bool res))) s):=
 .of_wp λprog w A R s h=>by
  obtain⟨k,g,d,tk,os⟩:=s;obtain⟨p,q,r,h⟩:=h;have f2:=AutoSeq1.sub_tuple_tuple;wp_walk using oi p,oi q,lD _ (λrest b s'=>b.1=none/\s'=⟨k,g,d,tk,os⟩/\fj .Lt A.in1 ⟨k,g,d,tk,os⟩ (decide (items.size<a.size)) res rest) _;case turn=>
   rintro ⟨y,x⟩ rest b s' ⟨c,rfl,j⟩;cases j with
   |eq h1 h2=>
    refine aa (h1 prog w _ _ ?_);wp_walk;exact⟨rfl,rfl,h2⟩
   |ne h1 h2=>
    refine aa (h1 prog w _ _ ?_);simp only[Bool.not_false,eH];refine aa (wpAny_rule ?_);refine aa (h2 prog w _ _ ?_);wp_walk;exact⟨_,rfl,h⟩
  case fin=>
   rintro ⟨t,u⟩ s' ⟨c,rfl,j⟩;simp only at c;subst c;cases j with
   |nil e=>
    wp_walk;exact⟨_,rfl,by rw[<-e] at h;simpa[Builtin.Tuple.tupleCompareSizes] using h⟩
  case h=>
   exact⟨rfl,rfl,r⟩
mutual
def ltQ:PyData->PyData->Option Bool
 |.int i,.int j=>some (decide (i<j))
 |.str x,.str y=>some (decide (x.cps.toList<y.cps.toList))
 |.tuple xs,.tuple ys=>dW xs ys
 |_,_=>none
def dW:List PyData->List PyData->Option Bool
 |[],[]=>some false
 |[],_::_=>some true
 |_::_,[]=>some false
 |x::xs,y::ys=>match PyData.eqv x y with
  |true=>dW xs ys
  |false=>ltQ x y
end
theorem yv(i j:Int)(A:Around)(s:Shared)(a b:Value)(as bs:List Addr)(r:Bool)(e:ltQ (.int i) (.int j)=some r)(ra:Reads s.heap a (.int i) as)(c:Reads s.heap b (.int j) bs):iw .Lt A s a b r:=by
 cases ra;cases c;rw[ltQ] at e;cases e;intro prog w E Q q;exact lt_int q
theorem yw(xs ys:List PyData)(A:Around)(s:Shared)(a b:Value)(as bs:List Addr)(r:Bool)(i:A.units+min (PyData.tuple xs).depth (PyData.tuple ys).depth<cLine)(L:∀d vs as bs,ReadsAll s.heap d xs as->ReadsAll s.heap vs ys bs->A.in1.units+min (depthAll xs) (depthAll ys)<cLine->fj .Lt A.in1 s (decide (d.length<vs.length)) r (d.zip vs))(ra:Reads s.heap a (.tuple xs) as)(k:Reads s.heap b (.tuple ys) bs):iw .Lt A s a b r:=by
 cases ra with
 | @tuple l o vs n _ e h1 h2 h3 m=>
  cases k with
  | @tuple p o' c n' _ f k1 k2 k3 t=>
   obtain⟨cls,dd,data,u⟩:=o;obtain⟨j,g,data2,h⟩:=o';simp only at h2 h3 k2 k3;subst h2 h3 k2 k3;have L:=L vs.toList c.toList _ _ m t (room_in i);intro prog w E Q q;exact richCompare_meets_room (op:=.Lt) ⟨_,h1,rfl⟩ ⟨_,k1,rfl⟩ F.slot_tuple_lt F.entry_tuple_lt (F.args_tuple_lt_2 _ _) (FY l p vs c n n' dd g u h r)
    ⟨h1,k1,by simpa using L,show Value.bool r≠Value.notImplemented/\Q (.bool r) s from⟨(λx=>nomatch x),q⟩⟩ (room_here i)
theorem yy(i j:Str)(A:Around)(s:Shared)(a b:Value)(as bs:List Addr)(r:Bool)(e:ltQ (.str i) (.str j)=some r)(ra:Reads s.heap a (.str i) as)(c:Reads s.heap b (.str j) bs):iw .Lt A s a b r:=by
 cases ra;cases c;rw[ltQ] at e;cases e;intro prog w E Q q;exact lt_str q
theorem uJ{α β:Type}{a:α}{b:β}{u:List α}{v:List β}:decide ((a::u).length<(b::v).length)=decide (u.length<v.length):=by simp
theorem yx(x y:PyData)(xs ys:List PyData)(A:Around)(s:Shared)(a vs:List Value)(as bs:List Addr)(r:Bool)(e:dW (x::xs) (y::ys)=some r)(ra:ReadsAll s.heap a (x::xs) as)(i:ReadsAll s.heap vs (y::ys) bs)(j:canLayAll0 (x::xs)=true)(k:canLayAll0 (y::ys)=true)
 (g:A.units+min (depthAll (x::xs)) (depthAll (y::ys))<cLine)
 (l:∀a vs as bs,dW xs ys=some r->ReadsAll s.heap a xs as->ReadsAll s.heap vs ys bs->canLayAll0 xs=true->canLayAll0 ys=true->A.units+min (depthAll xs) (depthAll ys)<cLine->fj .Lt A s (decide (a.length<vs.length)) r (a.zip vs))
 (L2:∀u v as bs,ltQ x y=some r->Reads s.heap u x as->Reads s.heap v y bs->x.canLay0=true->y.canLay0=true->A.units+min x.depth y.depth<cLine->iw .Lt A s u v r):fj .Lt A s (decide (a.length<vs.length)) r (a.zip vs):=by
  have b:x.canLay0=true/\canLayAll0 xs=true:=by simpa[canLayAll0] using j
  have d:y.canLay0=true/\canLayAll0 ys=true:=by simpa[canLayAll0] using k
  cases ra with
  |cons a1 a2=>
   cases i with
   |cons h m=>
    have f:=eqAt_reads x y A s _ _ _ _ a1 h b.1 d.1 (room_head g)
    rw[dW] at e
    cases c:PyData.eqv x y with
    |true=>
     rw[c] at e f
     have L:=l _ _ _ _ e a2 m b.2 d.2 (room_tail g)
     rw[uJ]
     exact .eq f L
    |false=>
     rw[c] at e f
     exact .ne f (L2 _ _ _ _ e a1 h b.1 d.1 (room_head g))
mutual
theorem sA:∀(d db:PyData) (A:Around) (s:Shared) (a b:Value) (as bs:List Addr) (r:Bool),ltQ d db=some r->Reads s.heap a d as->Reads s.heap b db bs->d.canLay0=true->db.canLay0=true->
  A.units+min d.depth db.depth<cLine->iw .Lt A s a b r
 |.none,db,A,s,_,_,_,_,r,e,ra,c,_,_,_=>by simp[ltQ] at e
 |.bool _,db,A,s,_,_,_,_,r,e,ra,c,_,_,_=>by simp[ltQ] at e
 |.list _,db,A,s,_,_,_,_,r,e,ra,c,_,_,_=>by simp[ltQ] at e
 |.dict _,db,A,s,_,_,_,_,r,e,ra,c,_,_,_=>by simp[ltQ] at e
 |.int i,db,A,s,_,_,_,_,r,e,ra,c,_,_,_=>by
  cases db with
  |int j=>exact yv i j A s _ _ _ _ r e ra c
  |_=>simp[ltQ] at e
 |.str i,db,A,s,_,_,_,_,r,e,ra,c,_,_,_=>by
  cases db with
  |str j=>exact yy i j A s _ _ _ _ r e ra c
  |_=>simp[ltQ] at e
 |.tuple xs,db,A,s,_,_,_,_,r,e,ra,c,f,g,h=>by
  cases db with
  |tuple ys=>exact yw xs ys A s _ _ _ _ r h (λk vs as bs h1 h2 h3=>p_ xs ys A.in1 s k vs as bs r (by rw[ltQ] at e;exact e) h1 h2 f g h3) ra c
  |_=>simp[ltQ] at e
theorem p_:∀(xs ys:List PyData) (A:Around) (s:Shared) (a vs:List Value) (as bs:List Addr) (r:Bool),dW xs ys=some r->ReadsAll s.heap a xs as->ReadsAll s.heap vs ys bs->canLayAll0 xs=true->canLayAll0 ys=true->
  A.units+min (depthAll xs) (depthAll ys)<cLine->fj .Lt A s (decide (a.length<vs.length)) r (a.zip vs)
 |[],ys,A,s,_,_,_,_,r,e,ra,b,_,_,_=>by
  cases ys with
  |nil=>cases ra;cases b;rw[dW] at e;cases e;exact .nil (by simp)
  |cons y ys=>cases ra;cases b;rw[dW] at e;cases e;exact .nil (by simp)
 |x::xs,ys,A,s,a,vs,as,bs,r,e,ra,b,g,h,i=>by
  cases ys with
  |nil=>cases ra;cases b;rw[dW] at e;cases e;exact .nil (by simp)
  |cons y ys=>exact yx x y xs ys A s a vs as bs r e ra b g h i (λa vs as bs h1 h2 h3 c d f=>p_ xs ys A s a vs as bs r h1 h2 h3 c d f) (λu v as bs h1 h2 h3 c d f=>sA x y A s u v as bs r h1 h2 h3 c d f)
end
section
variable{prog:Program}{w:World}{A:Around}{E:aA}{s:Shared}
theorem Cm{a b:Value}{r:Bool}{Q:aA}(Y:A.handled=none)
  (hc:∀s':Shared,(∀c o,s.heap.get? c=some o->s'.heap.get? c=some o)->iw .Lt A.in1 s' b a r)
  (h:∀h' tk,(∀c o,s.heap.get? c=some o->h'.get? c=some o)->Q (if r=true then b else a) {s with heap:=h',toks:=tk}):
  wpAny (model prog w) A (call (.builtin "min") [a,b]) Q E s:=by
 have f:(toString "min"++toString ".loop":String)="min.loop":=by decide
 refine call_function_tree F.kind_min F.plain_min F.entry_min (F.args_min2 _ _) ?_
 show wpAny _ A.in1 (Builtin.Builtins.bindParams "min" ["key","default"] 0 ⟨[],[]⟩>>=_) _ _ s
 refine aa (wpAny_of_eq (show Builtin.Builtins.bindParams "min" ["key","default"] 0 ⟨[],[]⟩=pure [none,none] from rfl) ?_)
 show wpAny _ A.in1 (newTuple [a,b]>>=_) _ _ s
 refine aa (dh ?_)
 have P:(s.heap.push {cls:= .type "tuple",data:= .seq #[a,b]}).IsTuple s.heap.objs.size #[a,b]:=⟨_,bL _ rfl,rfl,0,rfl⟩
 have G:(s.heap.push {cls:= .type "tuple",data:= .seq #[a,b]}).objs.size=s.heap.objs.size+1:=cg ..
 refine aa (wpAny_pyIter_tuple P ?_)
 refine aa (dh ?_)
 rw[f]
 obtain⟨I,B⟩:∃I,I=(s.heap.push {cls:= .type "tuple",data:= .seq #[a,b]}).objs.size:=⟨_,rfl⟩
 have l:((s.heap.push {cls:= .type "tuple",data:= .seq #[a,b]}).push {cls:= .type "tuple_iterator",data:= .fields #[.ref s.heap.objs.size,.int 0 0]}).IsTupleIter I s.heap.objs.size 0:=by
  rw[B];exact⟨_,bL _ rfl,rfl,rfl⟩
 have m:=P.push {cls:= .type "tuple_iterator",data:= .fields #[.ref s.heap.objs.size,.int 0 0]}
 obtain⟨h1,C⟩:∃h1,h1=(s.heap.push {cls:= .type "tuple",data:= .seq #[a,b]}).push {cls:= .type "tuple_iterator",data:= .fields #[.ref s.heap.objs.size,.int 0 0]}:=⟨_,rfl⟩
 have i:h1.objs.size=I+1:=by rw[C,B];exact cg ..
 have k1:∀c o,s.heap.get? c=some o->h1.get? c=some o:=λc o e=>by rw[C];exact a_ _ (a_ _ e)
 have n:s.heap.objs.size<I:=by rw[B,G];exact gI _
 rw[<-C] at l m
 show wpAny _ A.in1 (pure _) _ _ {s with heap:=(_:Heap)}
 rw[<-B,<-C]
 have W:=Walks.tuple (prog:=prog) (w:=w) (A:=A.in1) Y I s.heap.objs.size (bz n) #[a,b]
 obtain⟨S,p⟩:∃S,S=h1.objs.size:=⟨_,rfl⟩
 have g:S≠I:=by rw[p,i];exact iU (gI _)
 have q:S≠s.heap.objs.size:=by rw[p,i];omega
 have H:∀c o,s.heap.get? c=some o->c≠S/\c≠I:=λc o e=>by
  have:=aP e
  have T:c<I:=Nat.lt_trans this n
  exact⟨bz (by rw[p,i];exact fc T),bz T⟩
 have d:∀{c:Addr},c≠I->c∉[I]:=λh z=>h (by simpa using z)
 refine ao ⟨g7 iY _,?_⟩
 rw[<-p]
 have U:(h1.push {cls:= .type "list",data:= .seq #[]}).get? S=some {cls:= .type "list",dict:=none,data:= .seq #[] 0,slots:= #[]}:=by rw[p];exact bL _ rfl
 have t:=W.frame 0 h1 (h1.push {cls:= .type "list",data:= .seq #[]}) ⟨l,m⟩ λb _ o e=>a_ _ e
 refine gG F.entry_min_loop ?_
 rw[g4 iY _]
 show wpAny _ A.in1 (seqItems? (.ref S)>>=_) _ _ _
 refine aa (g9 U rfl ?_)
 show wpAny _ A.in1 (tryCatch (pyNext (.ref I)) _>>=_) _ _ _
 refine aa (oj (W.item 0 _ _ _ (by simp) t λv h2 Z hP J k2=> ?_))
 have ev:v=a:=by simpa using hP.symm
 subst ev
 have g2:=k2 S _ (d g) U
 show wpAny _ A.in1 (updateSeq S (λ_=> #[v,v])>>=_) _ _ _
 refine aa ?_
 refine lG g2 rfl ?_
 rw[f]
 refine ao ⟨g7 iY _,?_⟩
 refine gG F.entry_min_loop ?_
 rw[g4 iY _]
 show wpAny _ A.in1 (seqItems? (.ref S)>>=_) _ _ _
 refine aa (g9 (f5 _ g2 rfl) rfl ?_)
 show wpAny _ A.in1 (tryCatch (pyNext (.ref I)) _>>=_) _ _ _
 refine aa (oj (W.item 1 _ _ _ (by simp) (W.frame _ _ _ J λc hcf o e=> ?_) λj h3 qO K u k3=> ?_))
 .refine(ig _ _ (λz:S=c=> ?_)).trans e
  rcases aR.mp hcf with L|hcf
  .exact g (z.trans L)
  .exact q (z.trans (bF.mp hcf))
 have M:j=b:=by simpa using K.symm
 subst M
 have g3:=k3 S _ (d g) (f5 _ g2 rfl)
 have kk:∀c o,s.heap.get? c=some o->h3.get? c=some o:=λc o e=>by
  obtain⟨N,D⟩:=H c o e
  exact k3 c o (d D) ((ig _ _ (Ne.symm N)).trans (k2 c o (d D) (a_ _ (k1 c o e))))
 show wpAny _ A.in1 (tryCatch (holding [j,j] (richCompare .Lt j v>>=_)) _>>=_) _ _ _
 refine aa (oj (fV (aa (hc _ (by exact kk) prog w _ _ ?_))))
 refine aa (fV (g_ ?_))
 refine aa (wpAny_letGo (ao ?_))
 have fin:∀(R:Result->Shared->Prop) (x:Value) (k:Heap) (y V:Nat),(∀h' tk,(∀c o,s.heap.get? c=some o->h'.get? c=some o)->R (.ok (.ret x)) {s with heap:=h',toks:=tk})->k.get? S=some {cls:= .type "list",dict:=none,data:= .seq #[x,x] V,slots:= #[]}->(k.IsTupleIter I s.heap.objs.size 2/\k.IsTuple s.heap.objs.size #[v,j])->(∀c o,s.heap.get? c=some o->k.get? c=some o)->
   codeAny (model prog w) A (.builtin "min.loop" ⟨[.ref I,.none,.ref S],[]⟩) R {s with heap:=k,toks:=y}:=by
  intro R x k y V hR X O k4
  refine gG F.entry_min_loop ?_
  rw[g4 iY _]
  show wpAny _ A.in1 (seqItems? (.ref S)>>=_) _ _ _
  refine aa (g9 X rfl ?_)
  show wpAny _ A.in1 (tryCatch (pyNext (.ref I)) _>>=_) _ _ _
  refine aa (oj (W.done _ _ _ O λh5 GF k5=> ?_))
  have g5:=k5 S _ (d g) X
  show wpAny _ A.in1 (updateSeq S (λ_=> #[])>>=_) _ _ _
  refine aa ?_
  refine lG g5 rfl (aa (wpAny_letGo (ao ?_)))
  exact hR _ _ λc o e=>by
   obtain⟨N,D⟩:=H c o e
   exact(ig _ _ (Ne.symm N)).trans (k5 c o (d D) (k4 c o e))
 cases r with
 |true=>
  simp only[eH]
  refine aa ?_
  refine lG g3 rfl (aa (wpAny_letGo ?_))
  rw[f]
  refine ao ⟨g7 iY _,fin _ j _ _ _ (λh' tk hk=> ?_) (f5 _ g3 rfl) (W.frame _ _ _ u λc hcf o e=> ?_) λc o e=>(ig _ _ (Ne.symm (H c o e).1)).trans (kk c o e)⟩
  .exact h h' tk hk
  .refine(ig _ _ (λz:S=c=> ?_)).trans e
   rcases aR.mp hcf with L|hcf
   .exact g (z.trans L)
   .exact q (z.trans (bF.mp hcf))
 |false=>
  simp only[bU,bH]
  refine aa (wpAny_letGo ?_)
  rw[f]
  refine ao ⟨g7 iY _,fin _ v _ _ _ (λh' tk hk=> ?_) g3 u kk⟩
  exact h h' tk hk
end
section
variable{X:Cx}
theorem yt(hc:X.calm=true)(n:X.A.units+64<cLine):d_ X (.builtin "min") (λxs H Q=>∃(a b:V) (d e:PyData) (r:Bool),xs=[a,b]/\Dp X.K H a d/\Dp X.K H b e/\d.canLay0=true/\e.canLay0=true/\min e.depth d.depth<=60/\ltQ e d=some r/\Q (if r=true then b else a) H):=by
 intro pins s σ H xs o Q I r h;obtain⟨a,b,d,e,k,rfl,h1,h2,f,g,hd,i,q⟩:=h;obtain⟨u,j,rfl,ra,c⟩:=vals2 r;obtain⟨as,l⟩:=Dp.reads I d a u h1 ra;obtain⟨bs,m⟩:=Dp.reads I e b j h2 c;refine Cm (r:=k) (I.ok.hd hc) (λs' kp=>sA e d X.A.in1 s' _ _ _ _ k i (PyProof.Rows.Reads.keeps kp m) (PyProof.Rows.Reads.keeps kp l) g f ?_) λh' tk kp=>⟨_,H,I.kept kp,?_,q⟩
 .show X.A.units+1+_<_
  omega
 .cases k
  .exact ra
  .exact c
end
end L2
namespace DP
open L2
@[irreducible] def m5(x y:D)(A:Ar)(R:DK):Prop:=dI x=true/\dI y=true/\(toQ x).canLay0=true/\(toQ y).canLay0=true/\min (toQ y).depth (toQ x).depth<=60/\∃b,ltQ (toQ y) (toQ x)=some b/\R (if b=true then y else x) A
def uX:iy:=λvs A R=>match vs with
 |[x,y]=>m5 x y A R
 |_=>False
theorem zp{mg:aq}{K:Frag}:jS mg (λxs H Q=>∃(a b:V) (d e:PyData) (r:Bool),xs=[a,b]/\Dp K H a d/\Dp K H b e/\d.canLay0=true/\e.canLay0=true/\min e.depth d.depth<=60/\ltQ e d=some r/\Q (if r=true then b else a) H) uX:=by
 intro ds A ι H l R Q ra rs h k;unfold uX at h;split at h
 .rename_i x y
  obtain⟨u,_,rfl,c,v,_,rfl,f,rfl⟩:=rs;unfold m5 at h;obtain⟨p1,p2,g,i,hd,b,j,q⟩:=h;refine⟨u,v,_,_,b,rfl,RV.dp _ _ p1 c,RV.dp _ _ p2 f,g,i,hd,j,?_⟩;cases b
  .exact k.here ra q c
  .exact k.here ra q f
 .exact h.elim
end DP
namespace SR
abbrev Rs(xs:Array Nat):Prop:=xs.toList.Pairwise (·<·)
theorem Rs.lt{xs:Array Nat}(h:Rs xs){a b:Nat}(c:a<b)(d:b<xs.size):xs.getD a 0<xs.getD b 0:=by
 have:=gC.mp h a b (by simp;omega) (by simp;omega) c;rw[cM,cM,cu (by omega),cu d];simpa using this
theorem pS(xs:Array Nat)(d:Rs xs)(j:Nat):∀(fuel lo hi:Nat),hi<=xs.size->lo<=hi->hi - lo<=fuel->(∀i,i<lo->xs.getD i 0<j)->(∀i,hi<=i->i<xs.size->j<=xs.getD i 0)->
  SetTable.below.go xs j fuel lo hi<=xs.size/\(∀i,i<SetTable.below.go xs j fuel lo hi->xs.getD i 0<j)/\∀i,SetTable.below.go xs j fuel lo hi<=i->i<xs.size->j<=xs.getD i 0
 |0,lo,hi,h1,h2,h3,f,g=>by
  have e:lo=hi:=by omega
  show lo<=_/\(∀i,i<lo->_)/\∀i,lo<=i->_;exact⟨by omega,f,λi c=>g i (by omega)⟩
 |fuel+1,lo,hi,h1,h2,h3,f,g=>by
  unfold SetTable.below.go;by_cases h:lo<hi
  .rw[ai h]
   dsimp only;have k:(lo+hi)/2<xs.size:=by omega
   have e:xs.getD ((lo+hi)/2) j=xs.getD ((lo+hi)/2) 0:=by
    rw[cM,cM,cu k];rfl
   rw[e];by_cases hc:xs.getD ((lo+hi)/2) 0<j
   .rw[ai hc]
    refine pS xs d j fuel _ hi h1 (by omega) (by omega) (λi c=>?_) g;by_cases z:i=(lo+hi)/2
    .rw[z];exact hc
    .have:=d.lt (a:=i) (b:=(lo+hi)/2) (by omega) k
     omega
   .rw[aj hc]
    refine pS xs d j fuel lo _ (by omega) (by omega) (by omega) f (λi c hs=>?_);by_cases z:i=(lo+hi)/2
    .rw[z];omega
    .have:=d.lt (a:=(lo+hi)/2) (b:=i) (by omega) hs
     omega
  .rw[aj h]
   exact⟨by omega,f,λi c=>g i (by omega)⟩
theorem j5{xs:Array Nat}(a:Rs xs)(j:Nat):SetTable.below xs j<=xs.size/\(∀i,i<SetTable.below xs j->xs.getD i 0<j)/\∀i,SetTable.below xs j<=i->i<xs.size->j<=xs.getD i 0:=
 pS xs a j xs.size 0 xs.size (aC _) (ck _) (by omega) (λi h=>absurd h (fE _)) (λi h1 h2=>absurd h2 (by omega))
theorem tW{xs:Array Nat}{i:Nat}(h:i<xs.size):xs[i]?=some (xs.getD i 0):=by
 rw[cM,cu h];rfl
theorem r_{xs:Array Nat}(a:Rs xs):SetTable.below xs 0=0:=by
 obtain⟨h1,h2,h3⟩:=j5 a 0;by_cases z:SetTable.below xs 0=0
 .exact z
 .exact absurd (h2 0 (by omega)) (fE _)
theorem r9{xs:Array Nat}(c:Rs xs){i:Nat}(hi:i<xs.size):SetTable.below xs (xs.getD i 0+1)=i+1:=by
 obtain⟨h1,h2,h3⟩:=j5 c (xs.getD i 0+1);have a1:i<SetTable.below xs (xs.getD i 0+1):=by
  by_cases z:i<SetTable.below xs (xs.getD i 0+1)
  .exact z
  .have:=h3 i (by omega) hi
   omega
 by_cases z:i+1<SetTable.below xs (xs.getD i 0+1)
 .have a2:=h2 (i+1) z
  have d:=c.lt (a:=i) (b:=i+1) (by omega) (by omega);omega
 .omega
theorem yg{xs:Array Nat}(b:Rs xs){j:Nat}(h:j∈xs.toList):xs[SetTable.below xs j]?=some j:=by
 obtain⟨i,hi,e⟩:=f6 h;have a:i<xs.size:=by simpa using hi
 have c:xs.getD i 0=j:=by
  rw[cM,cu a];simpa using e
 obtain⟨h1,h2,h3⟩:=j5 b j;have a1:SetTable.below xs j=i:=by
  rcases Nat.lt_trichotomy (SetTable.below xs j) i with z|z|z
  .have a2:=h3 _ (aC _) (by omega)
   have d:=b.lt z a;omega
  .exact z
  .have:=h2 i z
   omega
 rw[a1,tW a,c]
theorem Bl{xs:Array Nat}(f:Rs xs){j:Nat}(m:j∉xs.toList):Rs (SetTable.insertAt xs (SetTable.below xs j) j):=by
 obtain⟨h1,h2,h3⟩:=j5 f j;unfold SetTable.insertAt Rs;have e:((xs.extract 0 (SetTable.below xs j)).push j++xs.extract (SetTable.below xs j) xs.size).toList=xs.toList.take (SetTable.below xs j)++(j::xs.toList.drop (SetTable.below xs j)):=by
  simp[dg,jI];exact fG (by simp)
 rw[e];refine bS.mpr ⟨f.sublist (eZ _ _),List.pairwise_cons.mpr ⟨λy n=>?_,f.sublist (fK _ _)⟩,λa o b hb=>?_⟩
 .obtain⟨i,hi,e⟩:=f6 n
  rw[dY] at hi;rw[List.getElem_drop] at e;have c:SetTable.below xs j+i<xs.size:=by simp at hi;omega
  have:=h3 (SetTable.below xs j+i) (by omega) c;rw[cM,cu c] at this;have h:xs[SetTable.below xs j+i]=y:=by simpa using e
  have this:j<=y:=by rw[<-h];exact this
  have p:j≠y:=λz=>m (by rw[z,<-h];simp);omega
 .obtain⟨i,hi,e⟩:=f6 o
  rw[dZ] at hi;rw[List.getElem_take] at e;have c:i<xs.size:=by omega
  have:=h2 i (by omega);rw[cM,cu c] at this;have q:xs[i]=a:=by simpa using e
  have g:a<j:=by rw[<-q];exact this
  rcases aR.mp hb with z|hb
  .rw[z];exact g
  .obtain⟨k,hk,l⟩:=f6 hb
   rw[dY] at hk;rw[List.getElem_drop] at l;have d:SetTable.below xs j+k<xs.size:=by simp at hk;omega
   have:=h3 (SetTable.below xs j+k) (by omega) d;rw[cM,cu d] at this;have r:xs[SetTable.below xs j+k]=b:=by simpa using l
   have:j<=b:=by rw[<-r];exact this
   omega
theorem BS{mask finger moves:Nat}{led plain:Bool}{hs:Array Int}{t:SetTable}{o:Array Nat}(h:SetTable.laid mask finger moves led plain hs=some (t,o)):Rs t.place:=by
 unfold SetTable.laid at h;obtain⟨w,_,h⟩:=Option.bind_eq_some_iff.mp h;cases h;unfold Rs;dsimp only;rw[jG,List.pairwise_filterMap];refine List.pairwise_lt_range.imp λ {a b} c p d q hq=>?_;obtain⟨_,_,rfl⟩:=iZ.mp d;obtain⟨_,_,rfl⟩:=iZ.mp hq;exact c
end SR
namespace SI
open SS
section
variable{prog:Program}{w:World}{A:Around}{E:aA}{s:Shared}{it a:Addr}{es:Array (Int×Value)}{ep:Nat}{t:SetTable}
theorem u0{slot i:Nat}{Q:Option (Value×Nat)->Shared->Prop}(d:w.params.followText "set-order"=false)(e:t.led=true)(f:(!t.plain&&decide (es.size>1))=false)(hs:eO s.heap a es ep t)
  (h:Q (match es[SetTable.below t.place slot]?,t.place[SetTable.below t.place slot]? with|some (_,x),some j=>some (x,j+1)|_,_=>none) s):wpAny (model prog w) A (setNext a slot i ep) Q E s:=by
 obtain⟨os,b,c,g⟩:=hs;unfold setNext;refine aa (fW b c g ?_);dsimp only;refine aa (l5 ?_);rw[d,aj (by decide)];show wpAny _ _ (if (!t.plain&&decide (es.size>1))=true then _ else _) _ _ _;rw[f,aj (by decide)];show wpAny _ _ ((if (!t.led&& !es.isEmpty)=true then _ else _)>>=_) _ _ _;rw[e,aj (by simp)];exact aa (ao (ao h))
theorem F_(r:w.params.followText "set-order"=false)(u:t.led=true)(y:(!t.plain&&decide (es.size>1))=false)(m:t.fits es.size=true)(c:SR.Rs t.place)(C:A.handled=none)(n:a≠it):
  Walks prog w A it [it,a] [it] (es.toList.map (·.2)).length (λi v=>(es.toList.map (·.2))[i]? =some v) (λi h=>cY h it a (.int (if i=0 then 0 else t.place.getD (i - 1) 0+1:Nat) 0) i es.size ep/\eO h a es ep t) where
 sub:=λb f=>by simp at f;simp[f]
 frame:=λ_ _ _ st hk=>⟨st.1.keep λo e=>hk it (by simp) o e,st.2.keep λo e=>hk a (by simp) o e⟩
 item:=λi s Q E hi st g=>by
  have d:i<es.size:=by simpa using hi
  have D:t.place.size=es.size:=by simp only[SetTable.fits,fZ,gF] at m;exact m.1
  have B:es[i]? =some (es[i]'d):=cu d
  have F:t.place[i]? =some (t.place.getD i 0):=SR.tW (by omega)
  have p:SetTable.below t.place (if i=0 then 0 else t.place.getD (i - 1) 0+1)=i:=by
   by_cases z:i=0
   .rw[ai z,SR.r_ c,z]
   .rw[aj z,SR.r9 c (by omega)];omega
  refine u5 (slot:=((if i=0 then 0 else t.place.getD (i - 1) 0+1:Nat):Int)) (x:=(es[i]'d).2) (nx:=t.place.getD i 0+1) st.1 st.2 (λA' G H hq=> ?_) λh' j k=> ?_
  .refine u0 r u y st.2 ?_
   rw[oA,p,B,F]
   exact hq
  .refine g _ h' s.toks ?_ ⟨?_,st.2.keep λo e=>(k.2 a n).trans e⟩ λb o f e=>(k.2 b λz=>f (by simp[z])).trans e
   .rw[bD,dj,B];rfl
   .rw[aj (by omega)];exact j
 done:=λs Q E st g=>by
  have D:t.place.size=es.size:=by simp only[SetTable.fits,fZ,gF] at m;exact m.1
  have l:(es.toList.map (·.2)).length=es.size:=by simp
  rw[l] at st
  refine tE C st.1 st.2 (λA' G H hq=>u0 r u y st.2 ?_) λh' q=>g h' s.toks λb o f e=>q b o (λz=>f (by simp[z])) e
  rw[oA]
  have p:SetTable.below t.place (if es.size=0 then 0 else t.place.getD (es.size - 1) 0+1)=es.size:=by
   by_cases z:es.size=0
   .rw[ai z,SR.r_ c,z]
   .rw[aj z,SR.r9 c (by omega)];omega
  rw[p,ow (by omega)]
  exact hq
 self:=λ_ _ _ _ st g=>pZ st.1 g
end
end SI
namespace DP
open L2
@[irreducible] def anyR(r:Nat)(A:Ar)(R:DK):Prop:=match A[r]? with
 |some (.lst xs)=>(match fm xs with
  |some bs=>R (.bl (bs.any id)) A
  |none=>False)
 |_=>False
end DP
end
namespace KO
open PySem PySem.W PyProof.Rows
section
variable{O:KeyOrd}{key:Nat->O.α}{n:Nat}{cmp:Nat->Nat->(Bool->Shared->Prop)->Shared->Prop}{s:Shared}
def kp(O:KeyOrd)(key:Nat->O.α)(p:Array Nat)(i:Nat):O.α:=key (p.getD i 0)
def Up(O:KeyOrd)(key:Nat->O.α)(p:Array Nat)(k:Nat):Prop:=∀i j,i<=j->j<k->O.kle (kp O key p i) (kp O key p j)
def Pm(n:Nat)(p:Array Nat):Prop:=p.Perm (range n).toArray
theorem Pm.size{p:Array Nat}(h:Pm n p):p.size=n:=by
 have:=Array.Perm.size_eq h;simpa using this
variable(hc:∀i j,i<n->j<n->∀C:Bool->Shared->Prop,C (O.blt (key i) (key j)) s->cmp i j C s)
include hc
end
end KO
namespace KP
open PySem PySem.W PySem.Spec PyProof.Rows KO
section
variable{prog:Program}{w:World}{A:Around}{E:aA}{s:Shared}
theorem uK{b fin r:Bool}{Q:Bool->Shared->Prop}(q:Q r s):∀{zs:List (Value×Value)} {i:Nat},0<i->L2.fj .Lt A s fin r zs->KatLex prog w A b fin Q zs i s
 |[],i,hi,h=>by
  cases h with
  |nil e=>exact kat_nil (by rw[e];exact q)
 |(y,x)::zs,i,hi,h=>by
  refine kat_cons ?_;cases h with
  |eq h1 h2=>exact h1 prog w _ _ (kat_yes (uK q (by omega) h2))
  |ne h1 h2=>
   refine h1 prog w _ _ (kat_no ?_);have e:(b&&i==0)=false:=by
    cases i with
    |zero=>omega
    |succ i=>simp
   rw[e];exact kat_one _ _ (h2 prog w _ _ q)
theorem BL{x y:Value}{a c:Str}{xs ys:List PyData}{as bs:List Addr}{r:Bool}{Q:Bool->Shared->Prop}(e:L2.ltQ (.tuple (.str a::xs)) (.tuple (.str c::ys))=some r)(u:Reads s.heap x (.tuple (.str a::xs)) as)(v:Reads s.heap y (.tuple (.str c::ys)) bs)
  (z:canLay0 (.tuple (.str a::xs))=true)(cy:canLay0 (.tuple (.str c::ys))=true)(k:A.units+min (depthAll (.str a::xs)) (depthAll (.str c::ys))<cLine)(q:Q r s):wpAny (model prog w) A (keyLt' (tuples' true) x y) Q E s:=by
 cases u with
 | @tuple l o vs n _ h h1 h2 h3 m=>
  cases v with
  | @tuple D o' b n' _ i k1 k2 k3 p=>
   refine kat_lt h1 h3 k1 k3 ?_;rw[L2.ltQ] at e;have j:decide (vs.size<b.size)=decide (vs.toList.length<b.toList.length):=by simp
   rw[j];generalize vs.toList=F at m ⊢;generalize b.toList=B at p ⊢;have d:canLay0 (.str a)=true/\canLayAll0 xs=true:=by simpa[canLay0,canLayAll0] using z
   have f:canLay0 (.str c)=true/\canLayAll0 ys=true:=by simpa[canLay0,canLayAll0] using cy
   cases m with
   |cons a1 a2=>
    cases p with
    |cons t C=>
     have g:=SeqAt.eqAt_reads (.str a) (.str c) A s _ _ _ _ a1 t d.1 f.1 (SeqAt.room_head k);cases a1;cases t;rw[List.zip_cons_cons,L2.uJ];refine kat_cons ?_;rw[L2.dW] at e;cases ce:PyData.eqv (.str a) (.str c) with
     |true=>
      rw[ce] at e g;exact g prog w _ _ (kat_yes (uK q (by omega) (L2.p_ xs ys A s _ _ _ _ r e a2 C d.2 f.2 (SeqAt.room_tail k))))
     |false=>
      rw[ce] at e g;refine g prog w _ _ (kat_no (oneLt_str ?_));have e:L2.ltQ (.str a) (.str c)=some r:=e;rw[L2.ltQ] at e;cases e;exact q
end
end KP
section
open PySem PySem.Spec PyProof.Rows
namespace L2
open PySem.SeqAt
theorem zE{xs ys:List PyData}{u:Nat}(h1:(PyData.tuple xs).depth<=60)(a:u+64<cLine):u+2+min (depthAll xs) (depthAll ys)<cLine:=by
 have e:(PyData.tuple xs).depth=depthAll xs+1:=rfl;omega
theorem kat_tups{h:Heap}:∀{vs:List Value} {qs:List PyData},vs.length=qs.length->(∀(i:Nat) v q,vs[i]?=some v->qs[i]?=some q->∃as x r,Reads h v q as/\q=.tuple (.str x::r))->∃fs:List Value,fs.length=vs.length/\PySem.W.KatTups h vs fs/\∀v∈fs,∃x t,v=Value.str x t
 |[],[],_,_=>⟨[],rfl,.nil,λ_ h=>by cases h⟩
 |v::vs,q::qs,e,k=>by
  obtain⟨fs,h1,h2,h3⟩:=kat_tups (vs:=vs) (qs:=qs) (by simpa using e) λi c d f g=>k (i+1) c d (by simpa using f) (by simpa using g);obtain⟨as,x,r,j,rfl⟩:=k 0 v q rfl rfl;cases j with
  | @tuple l o m n _ a g1 g2 g3 b=>
   generalize p:m.toList=ul at b;cases b with
   | @cons s vr _ _ _ _ a1 a2=>
    cases a1 with
    |str _ t=>
     refine⟨Value.str x t::fs,by simp[h1],.cons g1 g2 g3 ?_ h2,λv hv=>?_⟩
     .rw[<-dj,p];rfl
     .rcases aR.mp hv with rfl|hv
      .exact⟨x,t,rfl⟩
      .exact h3 v hv
end L2
namespace DP
open L2
theorem B9{α:Type}(d:α):∀(l:List α),(range l.length).map (λi=>l.getD i d)=l:=λl=>by
 apply ext_getElem
 .simp
 .intro i h1 h2
  simp[h2]
end DP
end
namespace L2
theorem cE{N P:List PySem.Str}{sc:PySem.Scope}(kind:sc.kind=.function:=by rfl)(co:sc.isCoroutine=false:=by rfl)(gen:sc.isGenerator=false:=by rfl)(nd:N.Nodup:=by decide+kernel)(pre:N.take P.length=P:=by rfl)
 (par:∀x∈P,sc.names.lookup x=some .local\/sc.names.lookup x=some .cell:=by decide+kernel)(qp:∀y∈sc.names,y.2≠ .free:=by decide+kernel):bE N P sc:=⟨kind,co,gen,nd,pre,par,qp⟩
end L2
section
open PySem PySem.Spec PyProof.Rows
namespace DP
open L2
section
variable{X:Cx}{N:En}{pos pos':Pos}{e a b:Expr}{m ma mb:aM}{x:Str}(i:Nat)
theorem dS(a:X.N.Nodup)(b:PE X e (up X.mg N m))(hi:X.N[i]?=some x:=by rfl)(c:Loc X.env.scope x:=by first|exact .inl rfl|exact .inr rfl)(hs:swapsWith e (some (.Name x pos')) pos.line X.env=pure false:=by rfl)(d:X.fn x=true\/X.env.scope.names.lookup x=some .local:=by first|exact .inl rfl|exact .inr rfl|assumption):
 PS X (.Assign [.Name x pos'] e pos) (cj X.mg N (v8 i m)):=zR a hi c b hs d
theorem dG(a:X.N.Nodup)(hi:X.N[i]?=some x:=by rfl)(b:Loc X.env.scope x:=by first|exact .inl rfl|exact .inr rfl)(c:X.fn x=true\/X.env.scope.names.lookup x=some .local:=by first|exact .inl rfl|exact .inr rfl|assumption):PG X (.Name x pos) (qT X.mg N (gN i)):=zG a hi b c
theorem pG(a:X.N.Nodup)(hi:X.N[i]?=some x:=by rfl)(b:Loc X.env.scope x:=by first|exact .inl rfl|exact .inr rfl)(c:X.fn x=true\/X.env.scope.names.lookup x=some .local:=by first|exact .inl rfl|exact .inr rfl|assumption):PG X (.Name x pos) (kr i):=vv a hi b c
end
section
variable{X:Cx}{N:En}{pos p:Pos}{e a b:Expr}{ma mb:aM}{x:Str}{es:List Expr}{k r n:Nat}{ps:List Str}{S:Ct}{RE:DX}{m:cB}
theorem dX(c:X.A.units+64<cLine)(d:PE X a (up X.mg N ma))(e:PE X b (up X.mg N mb))(hs:oM b:=by exact λ_ _=>rfl):PE X (.Subscript a b pos) (up X.mg N (dF kC ma mb)):=zz c d e hs
theorem dL(F:aG X.prog X.w X.K X.mg X.base k x ps (aH X.mg n S))(c:bQ r X.A)(d:Passes (aQ X.prog X.w) X (EL X.mg N RE))(f:PA X (e::es) (eE X.mg N m))(hk:k<=r:=by omega)(g:Gl X x:=by rfl)(a:(x==("__debug__":Str))=false:=by decide)
 (h:starEach (e::es) X.env=(false,eval e X.env)::starEach es X.env:=by rfl)(b:(backTo pos (starEach es X.env)).any (·.1)=false:=by rfl):
 PE X (.Call (.Name x p) (e::es) [] pos) (up X.mg N (sI n S RE m)):=zu F (c.mono hk) d f g a h b
end
theorem eT{P:Program}{w:World}{K:Frag}{mg:aq}{base:Heap}{x:Str}{st:Stmt}{Nm ps:List Str}{k n:Nat}{S:Ct}(T:TopD K mg x st ps)(Sc:bE Nm ps (aI st))
  (b:∀{N:En} {RE:DX} {f:Addr} {a:Value} {B:Around} {outer:List Env} {s:Shared} {H:Hp} {E:XK},bQ k (bx (aQ P w) P w K mg base Nm x (aI st) f a B outer s H E).A->
   Raises (bx (aQ P w) P w K mg base Nm x (aI st) f a B outer s H E) (EL mg N RE)->Passes (aQ P w) (bx (aQ P w) P w K mg base Nm x (aI st) f a B outer s H E) (EL mg N RE)->
   (bx (aQ P w) P w K mg base Nm x (aI st) f a B outer s H E).A.units+64<cLine->Nm.Nodup->
   ∃m,bY (bx (aQ P w) P w K mg base Nm x (aI st) f a B outer s H E) (dQ st) (cj mg N m)/\∀ds A R,S ds A R RE->ds.length=n->m {nx:=λ_ A'=>R .aJ A',rt:=R} (gB (Nm.length - n) ds) A)(hn:ps.length=n:=by rfl)(d:ps.length<=Nm.length:=by decide):aG P w K mg base (k+1) x ps (aH mg n S):=
 fP T Sc hn d λN RE f a B outer s H E c e g ds A R h i=>by
  obtain⟨m,h1,h2⟩:=b c e g c.units Sc.nd;exact⟨m,h1,h2 ds A R h i⟩
end DP
end
namespace ST
open PySem
abbrev Pr:=SetTable.Probe
def lp(m:Nat)(q:Nat×Nat):Nat×Nat:=((q.1*5+1+q.2/32)%(m+1),q.2/32)
def nx(m:Nat)(p:Pr):Pr:=
 if p.more>0 then {p with j:=p.j+1,more:=p.more - 1} else
 {p with j:=(lp m (p.i,p.perturb)).1,more:=SetTable.runEnd m (lp m (p.i,p.perturb)).1 - (lp m (p.i,p.perturb)).1,i:=(lp m (p.i,p.perturb)).1,perturb:=(lp m (p.i,p.perturb)).2}
theorem rW(t:SetTable)(p:Pr):t.advance p=nx t.mask p:=rfl
def it(m:Nat):Nat->Pr->Pr
 |0,p=>p
 |n+1,p=>nx m (it m n p)
theorem jr(m a b:Nat)(p:Pr):it m (a+b) p=it m a (it m b p):=by
 induction a with
 |zero=>rw[zero_add];rfl
 |succ a c=>rw[succ_add];show nx m _=nx m _;rw[c]
theorem fR(m n:Nat)(p:Pr):it m n (nx m p)=it m (n+1) p:=by rw[jr m n 1 p];rfl
structure Wf(m:Nat)(p:Pr):Prop where
 d:p.dummy=none
 i:p.i<=m
 r:p.j+p.more=SetTable.runEnd m p.i
 l:p.i<=p.j
 b:p.perturb<2 ^ 64
theorem nJ(m i:Nat)(h:i<=m):i<=SetTable.runEnd m i/\SetTable.runEnd m i<=i+9/\SetTable.runEnd m i<=m:=by
 unfold SetTable.runEnd;split<;>omega
theorem Wf.j{m:Nat}{p:Pr}(h:Wf m p):p.j<=m:=by
 have:=nJ m p.i h.i;have:=h.r;omega
theorem Wf.nx{m:Nat}{p:Pr}(h:Wf m p):Wf m (nx m p):=by
 unfold ST.nx;split
 .rename_i a
  exact⟨h.d,h.i,by have:=h.r;show p.j+1+(p.more - 1)=SetTable.runEnd m p.i;omega,by have:=h.l;show p.i<=p.j+1;omega,h.b⟩
 .have a1:(lp m (p.i,p.perturb)).1<=m:=Nat.le_of_lt_succ (mod_lt _ (succ_pos m))
  have a2:=nJ m _ a1;exact⟨h.d,a1,Nat.add_sub_of_le a2.1,aC _,by have:=h.b;show p.perturb/32<_;omega⟩
theorem Wf.it{m:Nat}{p:Pr}(h:Wf m p):∀n,Wf m (it m n p)
 |0=>h
 |n+1=>(h.it n).nx
def aV(m:Nat)(h:Int):Pr:={j:=SetTable.bits h%(m+1),more:=SetTable.runEnd m (SetTable.bits h%(m+1)) - SetTable.bits h%(m+1),i:=SetTable.bits h%(m+1),perturb:=SetTable.bits h,dummy:=none}
theorem iT(m:Nat)(h:Int):Wf m (aV m h):=by
 have a1:SetTable.bits h%(m+1)<=m:=Nat.le_of_lt_succ (mod_lt _ (succ_pos m));have a2:=nJ m _ a1;refine⟨rfl,a1,Nat.add_sub_of_le a2.1,aC _,?_⟩;show SetTable.bits h<_;unfold SetTable.bits;omega
theorem qP{m:Nat}:∀(k:Nat) (p:Pr),p.more=k->(it m k p).more=0/\(it m k p).i=p.i/\(it m k p).perturb=p.perturb
 |0,p,h=>⟨h,rfl,rfl⟩
 |k+1,p,h=>by
  have e:nx m p={p with j:=p.j+1,more:=p.more - 1}:=by unfold nx;rw[ai (by omega)]
  rw[<-fR,e];have:=qP (m:=m) k {p with j:=p.j+1,more:=p.more - 1} (by show p.more - 1=k;omega);exact this
def c_(m:Nat):Nat->Nat×Nat->Nat×Nat
 |0,q=>q
 |k+1,q=>lp m (c_ m k q)
theorem uG{m:Nat}{p:Pr}(h:Wf m p):∃n,n<=10/\(it m n p).j=(lp m (p.i,p.perturb)).1/\((it m n p).i,(it m n p).perturb)=lp m (p.i,p.perturb):=by
 obtain⟨h1,h2,h3⟩:=qP (m:=m) p.more p rfl;refine⟨p.more+1,?_,?_⟩
 .have a:=nJ m p.i h.i
  have:=h.r;have:=h.l;omega
 .show(nx m (it m p.more p)).j=_/\((nx m (it m p.more p)).i,(nx m (it m p.more p)).perturb)=_
  unfold nx;rw[aj (by omega),h2,h3];exact⟨rfl,rfl⟩
theorem uH{m:Nat}{p:Pr}(h:Wf m p):∀k,∃n,n<=10*(k+1)/\(it m n p).j=(c_ m (k+1) (p.i,p.perturb)).1/\((it m n p).i,(it m n p).perturb)=c_ m (k+1) (p.i,p.perturb)
 |0=>uG h
 |k+1=>by
  obtain⟨n,hn,_,e⟩:=uH h k;obtain⟨n',a,b,c⟩:=uG (h.it n);refine⟨n'+n,by omega,?_⟩;rw[jr,b,c,e];exact⟨rfl,rfl⟩
def cy(m:Nat):Nat->Nat->Nat
 |0,i=>i
 |k+1,i=>(cy m k i*5+1)%(m+1)
theorem l9(m a b i:Nat):cy m (a+b) i=cy m a (cy m b i):=by
 induction a with
 |zero=>rw[zero_add];rfl
 |succ a c=>rw[succ_add];show(_*5+1)%_=(_*5+1)%_;rw[c]
def dP(m:Nat):Prop:=(∀i,i<=m->∃a,a<=m/\cy m a 0=i)/\cy m (m+1) 0=0/\m%2=1
theorem dP.to{m:Nat}(h:dP m){i j:Nat}(hi:i<=m)(e:j<=m):∃t,t<=m/\cy m t i=j:=by
 obtain⟨a,f,c⟩:=h.1 i hi;obtain⟨b,g,d⟩:=h.1 j e;by_cases z:a<=b
 .refine⟨b - a,by omega,?_⟩
  rw[<-c,<-l9,show b - a+a=b by omega,d]
 .refine⟨b+(m+1) - a,by omega,?_⟩
  rw[<-c,<-l9,show b+(m+1) - a+a=b+(m+1) by omega,l9,h.2.1,d]
theorem sH(m:Nat)(h:((range (m+1)).all λi=>(range (m+1)).any λa=>cy m a 0==i)=true)(h2:cy m (m+1) 0=0)(h3:m%2=1):dP m:=⟨λi hi=>by
 have:=all_eq_true.mp h i (ff.mpr (by omega));obtain⟨a,b,e⟩:=List.any_eq_true.mp this;exact⟨a,by have:=ff.mp b;omega,by simpa using e⟩,h2,h3⟩
theorem yV:dP 7:=sH 7 (by decide+kernel) (by decide+kernel) rfl
theorem yT:dP 31:=sH 31 (by decide+kernel) (by decide+kernel) rfl
theorem qd(m:Nat)(q:Nat×Nat):∀k,(c_ m k q).2=q.2/32 ^ k
 |0=>by show q.2=_;simp
 |k+1=>by show(c_ m k q).2/32=_;rw[qd m q k,Nat.div_div_eq_div_mul,<-pow_succ]
theorem qc{m:Nat}(q:Nat×Nat)(hq:q.2=0):∀k,c_ m k q=(cy m k q.1,0)
 |0=>by cases q;subst hq;rfl
 |k+1=>by show lp m (c_ m k q)=_;rw[qc q hq k];unfold lp;simp[cy]
theorem qb(m a b:Nat)(q:Nat×Nat):c_ m (a+b) q=c_ m a (c_ m b q):=by
 induction a with
 |zero=>rw[zero_add];rfl
 |succ a c=>rw[succ_add];show lp m _=lp m _;rw[c]
theorem uQ{m:Nat}{q:Nat×Nat}(h:q.1<=m):∀k,(c_ m k q).1<=m
 |0=>h
 |k+1=>Nat.le_of_lt_succ (mod_lt _ (succ_pos m))
theorem reach{m:Nat}(hc:dP m){p:Pr}(h:Wf m p){j:Nat}(a:j<=m):∃n,n<10*SetTable.turns m/\(it m n p).j=j:=by
 have h0:(c_ m 13 (p.i,p.perturb)).2=0:=by
  rw[qd];exact Nat.div_eq_of_lt (bO h.b (by decide))
 obtain⟨t,d,e⟩:=hc.to (uQ (q:=(p.i,p.perturb)) h.i 13) a;obtain⟨n,hn,c,_⟩:=uH h (t+12);refine⟨n,by unfold SetTable.turns;omega,?_⟩;rw[c,show t+12+1=t+13 by omega,qb,qc _ h0];exact e
open SR
abbrev pl(t:SetTable):List Nat:=t.place.toList
theorem Ei{xs:Array Nat}(a:Rs xs):xs.toList.Nodup:=a.imp λh=>bz h
theorem pW{xs:Array Nat}(b:Rs xs){i a j:Nat}(h:xs[i]?=some j)(h':xs[a]?=some j):i=a:=by
 rw[<-dj] at h h';exact(List.getElem?_inj (b6.mp h).1 (Ei b)).mp (h.trans h'.symm)
theorem Bj{xs:Array Nat}{j:Nat}(h:j∈xs.toList):∃i:Nat,xs[i]?=some j:=by
 obtain⟨i,hi⟩:=List.getElem?_of_mem h;exact⟨i,by rw[<-dj];exact hi⟩
theorem qj{xs:Array Nat}{i j:Nat}(h:xs[i]?=some j):j∈xs.toList:=by
 rw[<-dj] at h;exact gJ h
theorem wY{t:SetTable}(a:Rs t.place){i j:Nat}(h:t.place[i]?=some j):t.slot j=.live i:=by
 have e:=yg a (qj h);have b:=pW a h e;unfold SetTable.slot;dsimp only;rw[ai (by rw[e];simp),<-b]
theorem t_(j:Nat):SetTable.has #[] j=false:=by
 unfold SetTable.has;simp
theorem EZ{t:SetTable}(hd:t.dummies= #[]){j:Nat}(h:j∉pl t):t.slot j=.empty:=by
 unfold SetTable.slot;dsimp only;rw[aj,hd,t_]
 .rfl
 .intro z
  exact h (qj (by simpa using z))
theorem tY{t:SetTable}(c:Rs t.place)(hd:t.dummies= #[]){f:Nat->Int}{h:Int}:∀(n fuel:Nat) (p:Pr),n<fuel->p.dummy=none->(it t.mask n p).j∉pl t->(∀q,q<n->(it t.mask q p).j∈pl t)->
  (SetTable.probe.go t f h fuel p=some (.empty (it t.mask n p).j none)/\∀q,q<n->∀i,t.place[i]? =some (it t.mask q p).j->f i≠h)\/
  ∃k i,k<n/\t.place[i]? =some (it t.mask k p).j/\f i=h/\SetTable.probe.go t f h fuel p=some (.candidate (it t.mask k p).j i (it t.mask (k+1) p))/\∀q,q<k->∀i,t.place[i]? =some (it t.mask q p).j->f i≠h
 |0,0,p,hn,_,_,_=>absurd hn (fE _)
 |n+1,0,p,hn,_,_,_=>absurd hn (fE _)
 |0,fuel+1,p,hn,d,g,_=>by
  refine .inl ⟨?_,λq hq=>absurd hq (fE _)⟩
  unfold SetTable.probe.go
  rw[EZ hd (show p.j∉pl t from g),d]
  rfl
 |n+1,fuel+1,p,hn,d,g,o=>by
  obtain⟨l,b⟩:=Bj (o 0 (by omega))
  have hs:t.slot p.j= .live l:=wY c b
  unfold SetTable.probe.go
  rw[hs]
  dsimp only
  by_cases z:f l=h
  .refine .inr ⟨0,l,by omega,b,z,?_,λq hq=>absurd hq (fE _)⟩
   rw[ai (by rw[z];exact beq_self_eq_true _)]
   rfl
  .rw[aj (by simpa using z)]
   have m:(nx t.mask p).dummy=none:=by
    unfold nx
    split<;>exact d
   have h0:∀i,t.place[i]? =some (it t.mask 0 p).j->f i≠h:=λi hi=>by
    rw[pW c hi b];exact z
   rcases tY c hd n fuel (nx t.mask p) (by omega) m (by rw[fR];exact g) (λq hq=>by rw[fR];exact o (q+1) (by omega)) with⟨e,a⟩|⟨k,i,hk,hi,r,e,a⟩
   .refine .inl ⟨by rw[rW,e,fR],λq hq i hi=> ?_⟩
    cases q with
    |zero=>exact h0 i hi
    |succ q=>exact a q (by omega) i (by rw[fR];exact hi)
   .refine .inr ⟨k+1,i,by omega,by rw[<-fR];exact hi,r,by rw[rW,e,fR,fR],λq hq i hi=> ?_⟩
    cases q with
    |zero=>exact h0 i hi
    |succ q=>exact a q (by omega) i (by rw[fR];exact hi)
theorem vA:∀(m:Nat) (l:List Nat),(∀j,j<m->j∈l)->m<=l.length
 |0,l,_=>ck _
 |m+1,l,h=>by
  have a:=h m (by omega);have:=vA m (l.erase m) λj b=>(List.mem_erase_of_ne (by omega)).mpr (h j (by omega));rw[List.length_erase_of_mem a] at this;have:=List.length_pos_of_mem a;omega
theorem vB{m:Nat}{l:List Nat}(h:l.length<=m):∃j,j<=m/\j∉l:=by
 refine Classical.byContradiction λz=>?_;have:=vA (m+1) l λj a=>Classical.byContradiction λy=>z ⟨j,by omega,y⟩;omega
theorem BX{P:Nat->Prop}:∀(n:Nat),P n->∃k,k<=n/\P k/\∀q,q<k->¬P q:=by
 intro n;induction n using Nat.strongRecOn with
 |ind n b=>
  intro hn;by_cases z:∃q,q<n/\P q
  .obtain⟨q,hq,a⟩:=z
   obtain⟨k,hk,r⟩:=b q hq a;exact⟨k,by omega,r⟩
  .exact⟨n,aC _,hn,λq hq a=>z ⟨q,hq,a⟩⟩
structure Tb(t:SetTable)(hs:List Int):Prop where
 rs:Rs t.place
 dm:t.dummies= #[]
 le:∀j∈pl t,j<=t.mask
 cy:dP t.mask
 sz:t.place.size=hs.length
 ro:t.place.size<=t.mask
 pa:∀j h,(j,h)∈(pl t).zip hs->∃n,(it t.mask n (aV t.mask h)).j=j/\∀q,q<n->(it t.mask q (aV t.mask h)).j∈pl t
theorem Tb.free{t:SetTable}{hs:List Int}(T:Tb t hs){p:Pr}(a:Wf t.mask p):∃n,n<10*SetTable.turns t.mask/\(it t.mask n p).j∉pl t/\∀q,q<n->(it t.mask q p).j∈pl t:=by
 obtain⟨j,b,hn⟩:=vB (m:=t.mask) (l:=pl t) (by have:=T.ro;simpa using this);obtain⟨n,h1,h2⟩:=reach T.cy a b;obtain⟨k,hk,h3,c⟩:=BX (P:=λn=>(it t.mask n p).j∉pl t) n (by rw[h2];exact hn);exact⟨k,by omega,h3,λq hq=>Classical.byContradiction (c q hq)⟩
theorem uu{α:Type}(xs:Array α)(p:Nat)(x:α):(SetTable.insertAt xs p x).toList=xs.toList.take p++(x::xs.toList.drop p):=by
 unfold SetTable.insertAt;simp[dg,jI];exact fG (by simp)
theorem qi{α:Type}{l:List α}{p:Nat}{x y:α}:y∈l.take p++(x::l.drop p)↔y=x\/y∈l:=by
 rw[aT,aR];constructor
 .rintro (h|h|h)
  .exact .inr (cA h)
  .exact .inl h
  .exact .inr (cF h)
 .rintro (h|h)
  .exact .inr (.inl h)
  .rw[<-cK p l,aT] at h
   exact h.elim .inl λz=>.inr (.inr z)
theorem Gh{α β:Type}{a:List α}{b:List β}(c:a.length=b.length)(p:Nat)(x:α)(y:β):(a.take p++(x::a.drop p)).zip (b.take p++(y::b.drop p))=(a.zip b).take p++((x,y)::(a.zip b).drop p):=by
 rw[List.zip_append (by simp[c]),List.zip_cons_cons];simp only[List.zip,List.take_zipWith,List.drop_zipWith]
theorem Tb.put{t:SetTable}{hs:List Int}(T:Tb t hs){n:Nat}{h:Int}(hn:(it t.mask n (aV t.mask h)).j∉pl t)(e:∀q,q<n->(it t.mask q (aV t.mask h)).j∈pl t)(f:t.place.size+1<=t.mask):
  Tb (t.put (it t.mask n (aV t.mask h)).j).1 (hs.take (t.put (it t.mask n (aV t.mask h)).j).2++(h::hs.drop (t.put (it t.mask n (aV t.mask h)).j).2)):=by
 generalize c:(it t.mask n (aV t.mask h)).j=j at hn ⊢;have b:j<=t.mask:=by rw[<-c];exact((iT t.mask h).it n).j
 have ep:(t.put j).1={t with place:=SetTable.insertAt t.place (SetTable.below t.place j) j}:=by
  unfold SetTable.put;dsimp only;rw[T.dm,t_];rw[aj b7,<-T.dm]
 have a:pl (t.put j).1=(pl t).take (SetTable.below t.place j)++(j::(pl t).drop (SetTable.below t.place j)):=by
  rw[ep];exact uu _ _ _
 have em:(t.put j).1.mask=t.mask:=by rw[ep]
 have mem:∀k,k∈pl t->k∈pl (t.put j).1:=λk hk=>by rw[a];exact qi.mpr (.inr hk)
 have d:(t.put j).2=SetTable.below t.place j:=rfl;have i:=(j5 T.rs j).1;refine⟨by rw[ep];exact Bl T.rs hn,by rw[ep];exact T.dm,λk hk=>?_,by rw[em];exact T.cy,?_,?_,λk g hk=>?_⟩
 .rw[em]
  rw[a] at hk;rcases qi.mp hk with rfl|hk
  .exact b
  .exact T.le k hk
 .have this:=cV List.length a
  have sz:=T.sz;rw[<-bu,this,d];simp only[bV,dZ,e_,dY,bu,sz]
 .have this:=cV List.length a
  rw[<-bu,this,em];simp only[bV,dZ,e_,dY,bu];omega
 .rw[a,d,Gh (by rw[bu,T.sz])] at hk
  rw[em];rcases qi.mp hk with z|hk
  .cases z
   exact⟨n,c,λq hq=>mem _ (e q hq)⟩
  .obtain⟨n',h1,h2⟩:=T.pa k g hk
   exact⟨n',h1,λq hq=>mem _ (h2 q hq)⟩
theorem Tb.fresh(f a:Nat)(l:Bool):Tb (SetTable.fresh f a l) []:=
 ⟨Pairwise.nil,rfl,(λj b=>by cases b),yV,rfl,ck _,(λj h c=>by cases c)⟩
abbrev Ow:=Array (Option Nat)
structure Rn(m:Nat)(p:Pr):Prop where
 w:Wf m p
 e:p.j=p.i
theorem mL{m:Nat}:∀(k:Nat) (p:Pr),k<=p.more->(it m k p).j=p.j+k
 |0,p,_=>rfl
 |k+1,p,h=>by
  have e:nx m p={p with j:=p.j+1,more:=p.more - 1}:=by unfold nx;rw[ai (by omega)]
  rw[<-fR,e,mL k _ (by show k<=p.more - 1;omega)];show p.j+1+k=_;omega
theorem Cz{m:Nat}{p:Pr}(h:Wf m p):Rn m (it m (p.more+1) p)/\((it m (p.more+1) p).i,(it m (p.more+1) p).perturb)=lp m (p.i,p.perturb):=by
 obtain⟨h1,h2,h3⟩:=qP (m:=m) p.more p rfl;have e:it m (p.more+1) p=nx m (it m p.more p):=rfl;refine⟨⟨h.it _,?_⟩,?_⟩
 .rw[e];unfold nx;rw[aj (by omega)]
 .rw[e];unfold nx;rw[aj (by omega),h2,h3]
theorem tQ{m:Nat}{o:Ow}:∀(fuel:Nat) (p:Pr),Rn m p->(∃k,k<fuel/\o.getD (c_ m k (p.i,p.perturb)).1 (some 0)=none)->
  ∃n,SetTable.layClean.free m o fuel p.i p.perturb=some (it m n p).j/\o.getD (it m n p).j (some 0)=none/\∀q,q<n->o.getD (it m q p).j (some 0)≠none
 |0,p,_,⟨k,hk,_⟩=>absurd hk (fE _)
 |fuel+1,p,a,⟨k,hk,hn⟩=>by
  have v:=a.w.r;have b:=a.e;unfold SetTable.layClean.free;cases h:(range (SetTable.runEnd m p.i+1 - p.i)).find? λk=>(o.getD (p.i+k) (some 0)).isNone with
  |some d=>
   obtain⟨h1,h2,h3⟩:=List.find?_range_eq_some.mp h;rw[ff] at h2;have l:(it m d p).j=p.i+d:=by rw[mL d p (by omega),b]
   refine⟨d,by rw[l],by rw[l];simpa using h1,λq hq=>?_⟩;have:=h3 q hq;rw[mL q p (by omega),b];intro z;rw[z] at this;exact absurd this (by decide)
  |none=>
   have h3:∀q,q<=p.more->o.getD (p.i+q) (some 0)≠none:=λq hq z=>by
    have:=List.find?_range_eq_none.mp h q (by omega);rw[z] at this;exact absurd this (by decide)
   obtain⟨c,f⟩:=Cz (m:=m) a.w;cases k with
   |zero=>exact absurd hn (h3 0 (ck _))
   |succ k=>
    have g:c_ m k (lp m (p.i,p.perturb))=c_ m (k+1) (p.i,p.perturb):=(qb m k 1 (p.i,p.perturb)).symm;obtain⟨n,s,t,u⟩:=tQ (o:=o) fuel _ c ⟨k,by omega,by rw[f,g];exact hn⟩;refine⟨n+(p.more+1),?_,?_,λq hq=>?_⟩
    .dsimp only
     rw[jr,<-s];have a1:(it m (p.more+1) p).i=(SetTable.leap m p.i p.perturb).1:=cV Prod.fst f;have a2:(it m (p.more+1) p).perturb=(SetTable.leap m p.i p.perturb).2:=cV Prod.snd f;rw[a1,a2]
    .rw[jr];exact t
    .by_cases z:q<=p.more
     .rw[mL q p z,b];exact h3 q z
     .have:=u (q - (p.more+1)) (by omega)
      rw[<-jr,show q - (p.more+1)+(p.more+1)=q by omega] at this;exact this
theorem Fd(m:Nat)(h:Int):Rn m (aV m h):=⟨iT m h,rfl⟩
structure LI(m:Nat)(o:Ow)(hs:List Int):Prop where
 sz:o.size=m+1
 lt:∀j i,o.getD j none=some i->i<hs.length
 at_:∀i,i<hs.length->∃j,o.getD j none=some i
 inj:∀j j' i,o.getD j none=some i->o.getD j' none=some i->j=j'
 pa:∀j i,o.getD j none=some i->∃n,(it m n (aV m (hs.getD i 0))).j=j/\∀q,q<n->o.getD (it m q (aV m (hs.getD i 0))).j none≠none
 li:∃L:List Nat,L.length=hs.length/\∀j,o.getD j none≠none->j∈L
theorem getD_in{o:Ow}{j:Nat}(h:j<o.size):o.getD j (some 0)=o.getD j none:=by
 rw[cM,cM,cu h];rfl
theorem AJ{o:Ow}{j k:Nat}{v:Option Nat}(h:j<o.size):(o.setIfInBounds j v).getD k none=if j=k then v else o.getD k none:=by
 rw[cM,Array.getElem?_setIfInBounds];by_cases e:j=k
 .rw[ai e,ai e,ai h];rfl
 .rw[aj e,aj e,cM]
theorem LI.step{m:Nat}{o:Ow}{hs:List Int}(I:LI m o hs)(hc:dP m)(C:hs.length<=m)(h:Int):
  ∃j,SetTable.layClean.free m o (SetTable.turns m) (SetTable.bits h%(m+1)) (SetTable.bits h)=some j/\LI m (o.setIfInBounds j (some hs.length)) (hs++[h]):=by
 obtain⟨L,y,d⟩:=I.li;obtain⟨u,p,r⟩:=vB (m:=m) (l:=L) (by omega);have f:o.getD u none=none:=Classical.byContradiction λz=>r (d u z);have h0:(c_ m 13 ((aV m h).i,(aV m h).perturb)).2=0:=by
  rw[qd];exact Nat.div_eq_of_lt (bO (iT m h).b (by decide))
 obtain⟨t,D,e⟩:=hc.to (uQ (q:=((aV m h).i,(aV m h).perturb)) (iT m h).i 13) p;obtain⟨n,A,s,B⟩:=tQ (o:=o) (SetTable.turns m) (aV m h) (Fd m h) ⟨t+13,by unfold SetTable.turns;omega,by
  rw[qb,qc _ h0];show o.getD (cy m t _) _=none;rw[e,getD_in (by rw[I.sz];omega)];exact f⟩
 have w:∀q,(it m q (aV m h)).j<o.size:=λq=>by rw[I.sz];exact Nat.lt_succ_of_le ((iT m h).it q).j
 refine⟨_,A,?_⟩;generalize x:(it m n (aV m h)).j=j at s ⊢;have g:j<o.size:=by rw[<-x];exact w n
 rw[getD_in g] at s;have gs:=λk v=>AJ (k:=k) (v:=v) g;have ge:∀i,i<hs.length->(hs++[h]).getD i 0=hs.getD i 0:=λi hi=>by simp[b8,e9 hi]
 have gl:(hs++[h]).getD hs.length 0=h:=by simp[b8]
 have keep:∀k,o.getD k none≠none->(o.setIfInBounds j (some hs.length)).getD k none≠none:=λk hk=>by
  rw[gs];split
  .intro z;cases z
  .exact hk
 refine⟨by rw[Array.size_setIfInBounds];exact I.sz,λk i hk=>?_,λi hi=>?_,λk k' i hk c=>?_,λk i hk=>?_,⟨j::L,by simp[y],λk hk=>?_⟩⟩
 .rw[gs] at hk
  rw[bV,gH];split at hk
  .cases hk;omega
  .have:=I.lt k i hk;omega
 .rw[bV,gH] at hi
  by_cases z:i=hs.length
  .exact⟨j,by rw[gs,ai rfl,z]⟩
  .obtain⟨k,hk⟩:=I.at_ i (by omega)
   refine⟨k,?_⟩;rw[gs,aj,hk];rintro rfl;rw[s] at hk;cases hk
 .rw[gs] at hk c
  split at hk
  .cases hk
   split at c
   .rename_i a b;rw[<-a,<-b]
   .exact absurd (I.lt _ _ c) (dw _)
  .split at c
   .cases c
    exact absurd (I.lt _ _ hk) (dw _)
   .exact I.inj k k' i hk c
 .rw[gs] at hk
  split at hk
  .cases hk
   rename_i a;rw[gl];refine⟨n,by rw[x,a],λq hq=>keep _ ?_⟩;have:=B q hq;rw[getD_in (w q)] at this;exact this
  .rw[ge i (I.lt k i hk)]
   obtain⟨n',a1,a2⟩:=I.pa k i hk;exact⟨n',a1,λq hq=>keep _ (a2 q hq)⟩
 .rw[gs] at hk
  split at hk
  .rename_i a;rw[<-a];exact cP
  .exact cz _ (d k hk)
theorem LI.start(m:Nat):LI m (Array.replicate (m+1) none) []:=by
 have g:∀j,(Array.replicate (m+1) (none:Option Nat)).getD j none=none:=λj=>by
  rw[cM,Array.getElem?_replicate];split<;>rfl
 refine⟨by simp,λj i h=>?_,λi hi=>absurd hi (fE _),λj a i h=>?_,λj i h=>?_,⟨[],rfl,λj h=>absurd (g j) h⟩⟩
 .rw[g] at h;cases h
 .rw[g] at h;cases h
 .rw[g] at h;cases h
abbrev jw(m:Nat)(acc:Option (Ow×Nat))(h:Int):Option (Ow×Nat):=do
 let (owner,k) <-acc
 let j <-SetTable.layClean.free m owner (SetTable.turns m) (SetTable.bits h%(m+1)) (SetTable.bits h)
 pure (owner.setIfInBounds j (some k),k+1)
theorem uE{m:Nat}(hc:dP m):∀(rest done:List Int) (o:Ow),LI m o done->done.length+rest.length<=m->∃o' k,rest.foldl (jw m) (some (o,done.length))=some (o',k)/\LI m o' (done++rest)
 |[],done,o,I,_=>⟨o,_,rfl,by rw[e8];exact I⟩
 |h::rest,done,o,I,b=>by
  rw[e_] at b;obtain⟨j,e,c⟩:=I.step hc (by omega) h;obtain⟨o',k,d,a⟩:=uE hc rest (done++[h]) _ c (by rw[bV,gH];omega);refine⟨o',k,?_,by rw[aW] at a;exact a⟩;rw[List.foldl_cons,<-d,bV,gH];show foldl (jw m) (jw m (some (o,done.length)) h) rest=_;have:jw m (some (o,done.length)) h=some (o.setIfInBounds j (some done.length),done.length+1):=by
   show(SetTable.layClean.free m o (SetTable.turns m) (SetTable.bits h%(m+1)) (SetTable.bits h)>>=λj=>pure (o.setIfInBounds j (some done.length),done.length+1))=_;rw[e];rfl
  rw[this]
theorem BR{m:Nat}(hc:dP m){hs:Array Int}(hn:hs.size<=m)(f B:Nat)(led plain:Bool):
  ∃t o,SetTable.laid m f B led plain hs=some (t,o)/\t.mask=m/\t.led=led/\t.plain=plain/\o.toList.Perm (range hs.size)/\Tb t (o.toList.map λi=>hs.getD i 0):=by
 obtain⟨v,k,e,I⟩:=uE hc hs.toList [] _ (LI.start m) (by simpa using hn);rw[nil_append] at I;have H:SetTable.layClean m hs=some v:=by
  unfold SetTable.layClean;rw[<-Array.foldl_toList];show Option.map _ (foldl (jw m) (some (Array.replicate (m+1) none,0)) hs.toList)=_;have s:foldl (jw m) (some (Array.replicate (m+1) none,0)) hs.toList=some (v,k):=e;rw[s];rfl
 generalize l:((range (m+1)).filterMap λj=>(v.getD j none).map (j,·))=live;have c:∀j i,(j,i)∈live↔v.getD j none=some i:=λj i=>by
  rw[<-l,i7];constructor
  .rintro ⟨a,_,e⟩
   obtain⟨u,C,s⟩:=iZ.mp e;cases s;exact C
  .intro h
   refine⟨j,ff.mpr ?_,by rw[h];rfl⟩;refine Classical.byContradiction λz=>?_;rw[cM,ow (by rw[I.sz];omega)] at h;cases h
 have w:SetTable.laid m f B led plain hs=some ({mask:=m,place:=(live.map (·.1)).toArray,dummies:= #[],finger:=f,led,moves:=B,plain},(live.map (·.2)).toArray):=by
  unfold SetTable.laid;rw[H,<-l];rfl
 have d:(live.map (·.2)).Perm (range hs.size):=by
  refine(List.perm_ext_iff_of_nodup ?_ List.nodup_range).mpr λi=>?_
  .unfold Nodup
   rw[jG,<-l,List.pairwise_filterMap];refine List.pairwise_lt_range.imp λ {a b} J p K q hq=>?_;obtain⟨i,C,rfl⟩:=iZ.mp K;obtain⟨u,s,rfl⟩:=iZ.mp hq;intro z;have z:i=u:=z;rw[z] at C;exact absurd (I.inj a b u C s) (by omega)
  .rw[d9,ff]
   constructor
   .rintro ⟨⟨j,u⟩,r,rfl⟩
    have:=I.lt j u ((c j u).mp r);simpa using this
   .intro h
    obtain⟨j,D⟩:=I.at_ i (by simpa using h);exact⟨(j,i),(c j i).mpr D,rfl⟩
 refine⟨_,_,w,rfl,rfl,rfl,d,?_⟩;have E:∀j,v.getD j none≠none↔j∈live.map (·.1):=λj=>by
  rw[d9];constructor
  .intro h
   cases F:v.getD j none with
   |none=>exact absurd F h
   |some i=>exact⟨(j,i),(c j i).mpr F,rfl⟩
  .rintro ⟨⟨y,i⟩,r,rfl⟩ z
   rw[(c y i).mp r] at z;cases z
 have A:live.length=hs.size:=by rw[<-bA (f:=(·.2)),d.length_eq,length_range]
 refine⟨BS w,rfl,λj D=>?_,hc,by simp,by show(live.map (·.1)).toArray.size<=m;simp[A];exact hn,λj g G=>?_⟩
 .obtain⟨⟨y,i⟩,r,rfl⟩:=d9.mp D
  rw[<-l,i7] at r;obtain⟨a,L,e⟩:=r;obtain⟨u,_,s⟩:=iZ.mp e;cases s;have:=ff.mp L;show _<=m;omega
 .have M:(pl {mask:=m,place:=(live.map (·.1)).toArray,dummies:= #[],finger:=f,led,moves:=B,plain}).zip ((live.map (·.2)).toArray.toList.map λi=>hs.getD i 0)=live.map λx=>(x.1,hs.getD x.2 0):=by
   show(live.map (·.1)).zip ((live.map (·.2)).map λi=>hs.getD i 0)=_;rw[f9,List.zip_map'];rfl
  rw[M] at G;obtain⟨⟨y,i⟩,r,e⟩:=d9.mp G;cases e;obtain⟨n,a1,a2⟩:=I.pa y i ((c y i).mp r);have N:hs.toList.getD i 0=hs.getD i 0:=by rw[b8,cM,dj]
  rw[N] at a1 a2;exact⟨n,a1,λq hq=>(E _).mp (a2 q hq)⟩
open PySem.Spec PyProof.Rows
theorem Tb.fits{t:SetTable}{hs:List Int}(T:Tb t hs):t.fits hs.length=true:=by
 unfold SetTable.fits SetTable.fill;rw[T.dm];have:=T.ro;have:=T.sz;simp;omega
theorem Tb.BZ{t t':SetTable}{hs:List Int}(T:Tb t hs)(h1:t'.place=t.place)(h2:t'.dummies=t.dummies)(h3:t'.mask=t.mask):Tb t' hs:=by
 obtain⟨m,p,d,f,l,v,q⟩:=t;obtain⟨a,b,d',f',c,e,g⟩:=t';cases h1;cases h2;cases h3;exact⟨T.rs,T.dm,T.le,T.cy,T.sz,T.ro,T.pa⟩
open SS
def gg(w:World)(h:Heap)(a:Addr)(es:Array (Int×Value)):Prop:=
 ∃o ep t,h.get? a=some o/\o.ExactSet/\o.data=.set es ep t/\es.size<scanBound/\t.fits es.size=true/\t.led=(!w.params.followText "set-order")/\SR.Rs t.place
theorem gg.keeps{w:World}{h h':Heap}{a:Addr}{es:Array (Int×Value)}(S:gg w h a es)(k:∀o,h.get? a=some o->h'.get? a=some o):gg w h' a es:=by
 obtain⟨o,ep,t,b,r⟩:=S;exact⟨o,ep,t,k o b,r⟩
section
variable{prog:Program}{w:World}{A:Around}{E:aA}{s:Shared}{it a:Addr}{es:Array (Int×Value)}{ep:Nat}{t:SetTable}
theorem Bs{Q:aA}(C:gg w s.heap a es)
  (h:∀(h':Heap) (d:Drawn) (it:Addr) (zs:List Value) (fp:List Addr) (St:Nat->Heap->Prop),zs.Perm (es.toList.map (·.2))->(∀A':Around,A'.handled=none->Walks prog w A' it fp [it] zs.length (λi v=>zs[i]?=some v) St)->St 0 h'->
   it∈fp->(∀b∈fp,b=a\/s.heap.objs.size<=b)->(∀b∈fp,b<h'.objs.size)->s.heap.objs.size<=it->(∀b o,s.heap.get? b=some o->h'.get? b=some o)->Q (.ref it) {s with heap:=h',drawn:=d}):wpAny (model prog w) A (pyIter (.ref a)) Q E s:=by
 obtain⟨o,ep,t,f,hex,hd,D,g,k,x⟩:=C;have B:s.TypeIs (.ref a) "set":=⟨o,f,hex.1⟩;have alt:a<s.heap.objs.size:=aP f;refine wpAny_pyIter_slot B wW (g8 wW B zZ ?_ (x_ _));show wpAny _ _ (Builtin.Frozenset.sizeOf a>>=_) _ _ s;unfold Builtin.Frozenset.sizeOf;refine aa (aa (lF f hd g (ao ?_)));refine aa ?_;unfold setDrawn;refine aa (fW f hd g ?_);dsimp only;refine aa (l5 (ao ?_));show wpAny _ _ (if (!w.params.followText "set-order"&&(!t.plain&&decide (es.size>1)))=true then _ else _) _ _ _;by_cases hc:(!w.params.followText "set-order"&&(!t.plain&&decide (es.size>1)))=true
 .rw[ai hc]
  refine aa (sX _ _ _ _ (by simp) λys d j=>?_);unfold newTuple;have y:sizeOk (.seq ((ys.map λ(i:Nat)=>rawInt i).toArray) 0):=by
   show((ys.map λ(i:Nat)=>rawInt i).toArray).size<=sizeLine;rw[bT,bA,j.length_eq,length_range];exact ou D
  refine aa (dh ?_ y);have l:=λb o (e:s.heap.get? b=some o)=>a_ {cls:=.type "tuple",data:=.seq ((ys.map λ(i:Nat)=>rawInt i).toArray)} e;have m:=l a o f;refine aa (wpAny_setEpoch_of m hd g ?_);refine aa (dh (ao ⟨_,rfl,"set_iterator",_,⟨_,bL _ rfl,rfl⟩,slot_next.lookup,?_⟩) (by size_fits));have ne1:a≠(s.heap.push {cls:=.type "tuple",data:=.seq ((ys.map λ(i:Nat)=>rawInt i).toArray)}).objs.size:=by rw[cg];exact bz (fc alt)
  have ne2:s.heap.objs.size≠(s.heap.push {cls:=.type "tuple",data:=.seq ((ys.map λ(i:Nat)=>rawInt i).toArray)}).objs.size:=by rw[cg];exact bz (gI _)
  refine h _ d _ (ys.map λp=>((es[p]?).getD (0,.none)).2) [_,a,s.heap.objs.size] _ (DI j) (λA' n=>F9 (t:=t) (ep:=ep) n ne1 ne2 j) ⟨⟨_,bL _ rfl,rfl,rfl⟩,⟨o,a_ _ m,hd,g⟩,⟨_,_,a_ _ (bL _ rfl),rfl⟩⟩ (by simp) (λb c=>by
   simp only[aR,eW,eY] at c;rcases c with z|z|z
   .exact .inr (by rw[z,cg];exact le_succ _)
   .exact .inl z
   .exact .inr (by rw[z];exact aC _)) (λb c=>?_) (by rw[cg];exact le_succ _) λb o e=>a_ _ (l b o e)
  rw[cg,cg];simp only[aR,eW,eY] at c;rcases c with z|z|z
  .rw[z,cg];exact gI _
  .rw[z];exact fc (fc alt)
  .rw[z];exact fc (gI _)
 .rw[aj hc]
  refine aa (ao ?_);refine aa (wpAny_setEpoch_of f hd g ?_);refine aa (dh (ao ⟨_,rfl,"set_iterator",_,⟨_,bL _ rfl,rfl⟩,slot_next.lookup,?_⟩) (by size_fits));have ne1:a≠s.heap.objs.size:=bz alt;have q:∀b∈[s.heap.objs.size,a],b<(s.heap.push {cls:=.type "set_iterator",data:=.fields [rawInt 0,rawInt 0,.ref a,rawInt (es.size:Nat),rawInt (ep:Nat)].toArray}).objs.size:=λb c=>by
   rw[cg];simp only[aR,eW,eY] at c;rcases c with z|z
   .rw[z];exact gI _
   .rw[z];exact fc alt
  have r:∀b∈[s.heap.objs.size,a],b=a\/s.heap.objs.size<=b:=λb c=>by
   simp only[aR,eW,eY] at c;rcases c with z|z
   .exact .inr (by rw[z];exact aC _)
   .exact .inl z
  cases u:w.params.followText "set-order" with
  |true=>
   exact h _ s.drawn _ ((pickOrder (w.params.setOrder a ep) es).toList.map (·.2)) [_,a] _ ((DM _ es).map _) (λA' n=>Ga (t:=t) u n ne1) ⟨⟨_,bL _ rfl,rfl,rfl⟩,⟨o,a_ _ f,hd,g⟩⟩ (by simp) r q (aC _) λb o e=>a_ _ e
  |false=>
   have F:(!t.plain&&decide (es.size>1))=false:=by
    rw[u] at hc;simpa using hc
   have G:t.led=true:=by rw[k,u];rfl
   exact h _ s.drawn _ (es.toList.map (·.2)) [_,a] _ (.refl _) (λA' n=>SI.F_ (t:=t) (ep:=ep) u G F g x n ne1) ⟨⟨_,bL _ rfl,rfl,rfl⟩,⟨o,a_ _ f,hd,g⟩⟩ (by simp) r q (aC _) λb o e=>a_ _ e
theorem yE{Q:List Value->Shared->Prop}(J:A.handled=none)(B:gg w s.heap a es)
  (N:∀(h':Heap) (d:Drawn) (tk:Nat) (zs:List Value),zs.Perm (es.toList.map (·.2))->s.heap.objs.size<=h'.objs.size->(∀b o,s.heap.get? b=some o->h'.get? b=some o)->Q zs {s with heap:=h',drawn:=d,toks:=tk}):
  wpAny (model prog w) A (collect (.ref a)) Q E s:=by
 have alt:a<s.heap.objs.size:=by obtain⟨o,_,_,C,_⟩:=B;exact aP C
 have O:es.size<scanBound:=by obtain⟨_,_,_,_,_,_,f,_⟩:=B;exact f
 unfold collect;refine aa (wpAny_runValue (gG PySem.F.entry_proto_collect ?_));rw[g4 PySem.F.plain_proto_collect _];show wpAny _ A.in1 (newList []>>=λl=>again (.builtin "list.__iadd__" ⟨[l,.ref a],[]⟩)) _ _ s;refine aa (dh ?_);refine ao ⟨g7 PySem.F.plain_list_iadd _,gG PySem.F.entry_list_iadd ?_⟩;rw[g4 PySem.F.plain_list_iadd _];have i:gg w (s.heap.push {cls:=.type "list",data:=.seq ([]:List Value).toArray}) a es:=B.keeps λo e=>a_ _ e;have v:∀{s':Shared},gg w s'.heap a es->s'.TypeIs (.ref a) "set":=λ {s'} x=>by obtain⟨o,_,_,C,hex,_⟩:=x;exact⟨o,C,hex.1⟩
 show wpAny _ A.in1 (Builtin.List.listExtendWith (.ref s.heap.objs.size) (.ref a) (.ref s.heap.objs.size)) _ _ _;unfold Builtin.List.listExtendWith;refine aa (wpAny_typeOf (v (s':={s with heap:=s.heap.push {cls:=.type "list",data:=.seq ([]:List Value).toArray}}) i) ?_);have h1:Builtin.List.listSameRef (.ref s.heap.objs.size) (.ref a)=false:=by simp[Builtin.List.listSameRef,iU alt]
 have h2:(Value.type "set" ==Value.type "list")=false:=by decide
 have h3:(Value.type "set" ==Value.type "tuple")=false:=by decide
 simp only[h1,h2,h3,Bool.or_false,bU,bH];refine aa (Bs (s:={s with heap:=s.heap.push {cls:=.type "list",data:=.seq ([]:List Value).toArray}}) i λh2 d it zs fp St m W D hit G P n k2=>?_);have k:gg w h2 a es:=i.keeps λo e=>k2 _ _ e;refine aa (fV ?_);unfold Builtin.List.listLengthHint;refine aa (wpAny_specialOf (v (s':={s with heap:=h2,drawn:=d}) k) PySem.F.slot_set_len.lookup ?_);dsimp only;have g:splitId "set.__len__"=some ("set","__len__"):=by decide+kernel
 rw[g];dsimp only;refine aa (oh (v (s':={s with heap:=h2,drawn:=d}) k) sub_set_self ?_);simp only[jO,bU,bH];rw[ai (by decide+kernel)];refine aa (wpAny_typeOf (v (s':={s with heap:=h2,drawn:=d}) k) ?_);refine ao ?_;rw[ai (by decide+kernel)];refine aa (wpAny_rule ?_);have R:(s.heap.push {cls:=.type "list",data:=.seq ([]:List Value).toArray}).get? s.heap.objs.size=some {cls:=.type "list",data:=.seq ([]:List Value).toArray}:=bL _ rfl;have K:=k2 _ _ R;have p:s.heap.objs.size∉fp:=λz=>by
  rcases G _ z with e|e
  .exact absurd alt (by rw[<-e];exact dw _)
  .rw[cg] at e
   exact absurd e (Nat.not_succ_le_self _)
 have q:s.heap.objs.size<it:=by rw[cg] at n;exact n
 refine aa ?_;show wpAny _ A.in1 (updateSeq s.heap.objs.size (·.push .none)>>=λ_=>updateSeq s.heap.objs.size (·.pop)) _ _ _;refine aa (lG K rfl ?_);have L2:=f5 (Obj.mapSeq (·.push Value.none)) K rfl;refine lG L2 rfl ?_;have S:=f5 (Obj.mapSeq (·.pop)) L2 rfl;have r:∀b o,b≠s.heap.objs.size->h2.get? b=some o->((h2.update s.heap.objs.size (Obj.mapSeq (·.push Value.none))).update s.heap.objs.size (Obj.mapSeq (·.pop))).get? b=some o:=
  λb o f e=>(ig _ _ (Ne.symm f)).trans ((ig _ _ (Ne.symm f)).trans e)
 have T:=(W A.in1 J).toS;have hn:zs.length<=sizeLine:=by rw[m.length_eq,bA,bu];exact ou O
 refine ao ⟨g7 PySem.F.plain_extend_loop _,codeAny_extend_loopS T hn _ p _ zs.length 0 _ _ _ rfl (ck _) ((W A.in1 J).frame 0 _ _ D λb f o e=>r b o (λz=>p (z▸f)) e) S (ItemsOf.nil _) λs' c c' y t h=>?_⟩;show wpAny _ A (load s.heap.objs.size>>=_) _ _ s';refine aa (wpAny_load t ?_);have u:c.toList=zs:=by
  apply List.ext_getElem?;intro j;rw[dj];by_cases L:j<c.size
  .have M:c[j]?=some (c[j]'L):=cu L
   rw[M];exact(h.2 j _ M).symm
  .rw[ow (by omega),qY (by rw[<-h.1];omega)]
 obtain⟨h',g',d',H,I⟩:=s';have U:g'=s.gens:=y.gens;have V:d'=d:=y.drawn;have X:I=s.os:=y.os;subst U;subst V;subst X;refine ao ?_;show Q c.toList _;rw[u];have kp:∀b o,s.heap.get? b=some o->h'.get? b=some o:=λb o e=>by
  have f:b<s.heap.objs.size:=aP e;refine y.heap b o ?_ (r b o (bz f) (k2 _ _ (a_ _ e)));simp only[aR,eW,eY,not_or];exact⟨bz f,bz (Nat.lt_trans f q)⟩
 exact N h' d' H zs m (iu (aP t)) kp
end
open PySem.W KO
theorem DG{α β:Type}{f:α->β}{l n:List β}(h:l.Perm n):∀m:List α,n=m.map f->∃k:List α,k.Perm m/\l=k.map f:=by
 induction h with
 |nil=>
  intro m e;cases m with
  |nil=>exact⟨[],.nil,rfl⟩
  |cons=>cases e
 |cons x _ o=>
  intro m e;cases m with
  |nil=>cases e
  |cons a m=>
   obtain⟨h1,h2⟩:=List.cons.inj e;obtain⟨k,hk,c⟩:=o m h2;exact⟨a::k,hk.cons a,by rw[c,h1];rfl⟩
 |swap x y l=>
  intro m e;match m,e with
  |a::b::m,e=>
   cases e;exact⟨b::a::m,.swap a b m,rfl⟩
 |trans _ _ d g=>
  intro m e;obtain⟨k,hk,c⟩:=g m e;obtain⟨k',i,j⟩:=d k c;exact⟨k',i.trans hk,j⟩
end ST
section
open PySem PySem.Spec PyProof.Rows
namespace L2
open PySem.SeqAt
theorem uL{α:Type}{f:Nat->α}{n:Nat}:∀{l:List α},(∀x∈l,∃j,j<n/\x=f j)->∃a:List Nat,l=a.map f/\∀j∈a,j<n
 |[],_=>⟨[],rfl,λj h=>by cases h⟩
 |x::l,h=>by
  obtain⟨j,b,e⟩:=h x cP;obtain⟨a,c,h2⟩:=uL λy d=>h y (cz _ d);exact⟨j::a,by rw[e,c];rfl,λk hk=>by
   rcases aR.mp hk with rfl|hk
   .exact b
   .exact h2 k hk⟩
theorem xB:∀(as:List Addr),Vals (as.map V.ref) (as.map Value.ref)
 |[]=>.nil
 |a::as=>.cons rfl (xB as)
theorem xC:∀{as:List Addr} {its:List Value},Vals (as.map V.ref) its->its=as.map Value.ref
 |[],_,.nil=>rfl
 |a::as,_,.cons h r=>by
  cases h;rw[xC r];rfl
end L2
end
namespace TS
open PySem PyProof.Rows
def dH:Bool->Keyed->Array Keyed->Nat->Nat->Nat->StateT SortSt Sem (Option Nat):=sortPriv%PySem.Builtin.gallop
def kQ:Array Keyed->Array Keyed->StateT SortSt Sem (Array Keyed):=sortPriv%PySem.Builtin.mergeLo
def kP:Array Keyed->Array Keyed->StateT SortSt Sem (Array Keyed):=sortPriv%PySem.Builtin.mergeHi
abbrev aS(st:SortSt)(g:Nat):SortSt:=SortSt.mk' (kindOf st) (arrOf st) (pendingOf st) g (failedOf st)
def jc(left:Bool)(key:Keyed)(arr:Array Keyed)(base i:Nat):StateT SortSt Sem (Option Bool):=do
 let x <-elem' arr (base+i)
 if left then lt' x key else return (<-lt' key x).map (!·)
def lZ(left:Bool)(key:Keyed)(arr:Array Keyed)(base n B5 hi0:Nat):StateT SortSt Sem (Option Nat):=do
 let mut lo:=B5
 let mut hi:=hi0
 for _ in [0:n] do
  if lo≥hi then break
  let m:=lo+(hi - lo)/2
  let some more <-jc left key arr base m|return none
  if more then lo:=m+1 else hi:=m
 return some hi
theorem AH(left:Bool)(key:Keyed)(arr:Array Keyed)(base n hint:Nat):dH left key arr base n hint=(do
 let mut a:=0
 let mut c:=1
 let some right <-jc left key arr base hint|return none
 if right then
  let b:=n - hint
  for _ in [0:n] do
   if c≥b then break
   let some more <-jc left key arr base (hint+c)|return none
   if !more then break
   a:=c
   c:=2*c+1
  lZ left key arr base n (hint+a+1) (hint+min c b)
 else
  let b:=hint+1
  for _ in [0:n] do
   if c≥b then break
   let some found <-jc left key arr base (hint - c)|return none
   if found then break
   a:=c
   c:=2*c+1
  lZ left key arr base n (hint+1 - min c b) (hint - a)):=rfl
theorem Cg(a b:Array Keyed):kQ a b=(do
 rule "list.sort.merge-lo"
 let total:=a.size+b.size
 let done (out:Array Keyed) (c d:Nat):=out++a.extract c a.size++b.extract d b.size
 let g (out:Array Keyed) (c d:Nat):=out++b.extract d b.size++a.extract c a.size
 let mut out:Array Keyed:= #[<-elem' b 0]
 let mut c:=0
 let mut d:=1
 if d==b.size then return done out c d
 if c+1==a.size then return g out c d
 let mut minGallop:=gallopOf (<-get)
 for _ in [0:total] do
  let mut e:=0
  let mut f:=0
  for _ in [0:total] do
   let some h <-lt' (<-elem' b d) (<-elem' a c)|return done out c d
   if h then
    out:=out.push (<-elem' b d);d:=d+1;f:=f+1;e:=0
    if d==b.size then return done out c d
    if f≥minGallop then break
   else
    out:=out.push (<-elem' a c);c:=c+1;e:=e+1;f:=0
    if c+1==a.size then return g out c d
    if e≥minGallop then break
  rule "list.sort.gallop"
  minGallop:=minGallop+1
  for _ in [0:total] do
   if minGallop>1 then minGallop:=minGallop - 1
   modify (λs=>aS s minGallop)
   let some k <-dH false (<-elem' b d) a c (a.size - c) 0|return done out c d
   e:=k
   if k>0 then
    out:=out++a.extract c (c+k);c:=c+k
    if c+1==a.size then return g out c d
    if c==a.size then return done out c d
   out:=out.push (<-elem' b d);d:=d+1
   if d==b.size then return done out c d
   let some k <-dH true (<-elem' a c) b d (b.size - d) 0|return done out c d
   f:=k
   if k>0 then
    out:=out++b.extract d (d+k);d:=d+k
    if d==b.size then return done out c d
   out:=out.push (<-elem' a c);c:=c+1
   if c+1==a.size then return g out c d
   if e<7&&f<7 then break
  minGallop:=minGallop+1
  modify (λs=>aS s minGallop)
 unsupported "internal:list.sort.merge-bound"):=rfl
section
variable{M:Model}{A:Around}{E:aA}{s:Shared}{C:SortKind}
theorem AI{left:Bool}{key:Keyed}{arr:Array Keyed}{base n hint:Nat}{b:Nat->Bool}{st:SortSt}{Q:Option Nat->SortSt->Prop}(hk:kindOf st=C)(u:hint<n)
  (p:∀i,i<n->∀(Q:Option Bool->SortSt->Prop),Q (some (b i)) st->wpS M A E s (jc left key arr base i) Q st)
  (mono:∀i j,i<=j->j<n->b j=true->b i=true)
  (h:∀k,k<=n->(∀i,i<k->b i=true)->(∀i,k<=i->i<n->b i=false)->Q (some k) st):wpS M A E s (dH left key arr base n hint) Q st:=by
 rw[AH]
 dsimp only
 refine au (p hint u _ ?_)
 dsimp only
 have a:∀i j,i<=j->j<n->b i=false->b j=false:=λi j q v hi=>by
  cases e:b j with
  |false=>rfl
  |true=>rw[mono i j q v e] at hi;cases hi
 have fin:∀lo hi:Nat,lo<=hi->hi<=n->(∀i,i<lo->b i=true)->(∀i,hi<=i->i<n->b i=false)->
   wpS M A E s (lZ left key arr base n lo hi) Q st:=λlo hi h1 h2 h3 w=>by
  unfold lZ
  dsimp only
  refine au (di (I:=λx c d=>d=st/\∃lo hi,c=(none,lo,hi)/\lo<=hi/\hi<=n/\(∀i,i<lo->b i=true)/\(∀i,hi<=i->i<n->b i=false)/\hi - lo<=n - x) ?_ ?_ ⟨rfl,lo,hi,rfl,h1,h2,h3,w,by omega⟩)
  .rintro x c d _ r ⟨rfl,lo,hi,rfl,a1,a2,g,f,y⟩
   dsimp only
   by_cases l:lo≥hi
   .rw[ai l]
    refine aB ?_
    have:lo=hi:=by omega
    subst this
    exact aB (h lo a2 g f)
   .rw[aj l]
    refine au (p _ (by omega) _ ?_)
    dsimp only
    cases m:b (lo+(hi - lo)/2) with
    |true=>exact aB ⟨rfl,_,_,rfl,by omega,a2,λi o=>mono i _ (by omega) (by omega) m,f,by omega⟩
    |false=>exact aB ⟨rfl,_,_,rfl,by omega,by omega,g,λi o hn=>a _ i o hn m,by omega⟩
  .rintro c d ⟨rfl,lo,hi,rfl,a1,a2,g,f,y⟩
   have:lo=hi:=by omega
   subst this
   exact aB (h lo a2 g f)
 cases t:b hint with
 |true=>
  simp only[eH]
  refine au (di (I:=λx c d=>d=st/\∃la of,c=(none,la,of)/\la<of/\x+1<=of/\hint+la<n/\b (hint+la)=true) ?_ ?_ ⟨rfl,0,1,rfl,by decide,by omega,by omega,by rw[add_zero];exact t⟩)
  .rintro x c d _ r ⟨rfl,la,of,rfl,a1,a2,g,f⟩
   dsimp only
   by_cases l:of≥n - hint
   .rw[ai l]
    refine aB ?_
    dsimp only
    exact fin (hint+la+1) (hint+min of (n - hint)) (by omega) (by omega) (λi hi=>mono i _ (by omega) g f) (λi h1 h2=>by omega)
   .rw[aj l]
    refine au (p _ (by omega) _ ?_)
    dsimp only
    cases m:b (hint+of) with
    |true=>exact aB ⟨rfl,_,_,rfl,by omega,by omega,by omega,m⟩
    |false=>
     refine aB ?_
     dsimp only
     exact fin (hint+la+1) (hint+min of (n - hint)) (by omega) (by omega) (λi hi=>mono i _ (by omega) g f) (λi h1 h2=>a (hint+of) i (by omega) h2 m)
  .rintro c d ⟨rfl,la,of,rfl,a1,a2,g,f⟩
   dsimp only
   exact fin (hint+la+1) (hint+min of (n - hint)) (by omega) (by omega) (λi hi=>mono i _ (by omega) g f) (λi h1 h2=>by omega)
 |false=>
  simp only[bU,bH]
  refine au (di (I:=λx c d=>d=st/\∃la of,c=(none,la,of)/\la<of/\x+1<=of/\la<=hint/\b (hint - la)=false) ?_ ?_ ⟨rfl,0,1,rfl,by decide,by omega,by omega,by rw[Nat.sub_zero];exact t⟩)
  .rintro x c d _ r ⟨rfl,la,of,rfl,a1,a2,g,f⟩
   dsimp only
   by_cases l:of≥hint+1
   .rw[ai l]
    refine aB ?_
    dsimp only
    exact fin (hint+1 - min of (hint+1)) (hint - la) (by omega) (by omega) (λi hi=>by omega) (λi h1 h2=>a (hint - la) i h1 h2 f)
   .rw[aj l]
    refine au (p _ (by omega) _ ?_)
    dsimp only
    cases m:b (hint - of) with
    |true=>
     refine aB ?_
     dsimp only
     exact fin (hint+1 - min of (hint+1)) (hint - la) (by omega) (by omega) (λi hi=>mono i (hint - of) (by omega) (by omega) m) (λi h1 h2=>a (hint - la) i h1 h2 f)
    |false=>exact aB ⟨rfl,_,_,rfl,by omega,by omega,by omega,m⟩
  .rintro c d ⟨rfl,la,of,rfl,a1,a2,g,f⟩
   dsimp only
   exact fin (hint+1 - min of (hint+1)) (hint - la) (by omega) (by omega) (λi hi=>by omega) (λi h1 h2=>a (hint - la) i h1 h2 f)
end
section
variable{M:Model}{A:Around}{E:aA}{s:Shared}
theorem b5{arr:Array Keyed}{i:Nat}{st:SortSt}{Q:Keyed->SortSt->Prop}(hi:i<arr.size)(h:Q (arr.toList[i]'hi) st):wpS M A E s (elem' arr i) Q st:=by
 rw[elem'_eq,cu hi];exact aB h
theorem jF{σ:Type}{r:String}{st:σ}{Q:Unit->σ->Prop}(h:Q () st):wpS M A E s (liftM (rule r):StateT σ Sem Unit) Q st:=
 wpS_lift (wpAny_rule ⟨rfl,h⟩)
structure Cp(M:Model)(A:Around)(E:aA)(s:Shared)(C:SortKind)(G:Keyed->Prop)(r:Keyed->Keyed->Bool):Prop where
 lt:∀{x y:Keyed} {st:SortSt} {Q:Option Bool->SortSt->Prop},G x->G y->kindOf st=C->Q (some (r x y)) st->wpS M A E s (lt' x y) Q st
 as:∀{x y:Keyed},G x->G y->r x y=true->r y x=false
 tr:∀{x y z:Keyed},G x->G y->G z->r y x=false->r z y=false->r z x=false
end
section
variable{G:Keyed->Prop}{r:Keyed->Keyed->Bool}
abbrev Le(r:Keyed->Keyed->Bool)(x y:Keyed):Prop:=r y x=false
structure MI(G:Keyed->Prop)(r:Keyed->Keyed->Bool)(a b out:List Keyed)(ia ib:Nat):Prop where
 pm:out.Perm (a.take ia++b.take ib)
 so:out.Pairwise (Le r)
 la:∀x∈out,∀y∈a.drop ia,Le r x y
 lb:∀x∈out,∀y∈b.drop ib,Le r x y
theorem ki(a:List Keyed)(i k:Nat):a.drop i=(a.drop i).take k++a.drop (i+k):=by
 rw[<-jM];exact(cK k (a.drop i)).symm
theorem MI.lq{a b out:List Keyed}{d f:Nat}(m:MI G r a b out d f)(k:Nat)(sa:a.Pairwise (Le r))(h:∀x∈(a.drop d).take k,∀y∈b.drop f,Le r x y):
  MI G r a b (out++(a.drop d).take k) (d+k) f:=by
 have e:=ki a d k;have g:(a.drop d).Pairwise (Le r):=sa.sublist (fK _ _);rw[e,bS] at g;refine⟨?_,?_,?_,?_⟩
 .rw[take_add]
  refine(fY _ m.pm).trans ?_;rw[aW,aW];exact fH _ gD
 .exact bS.mpr ⟨m.so,g.1,λx hx y c=>m.la x hx y (by rw[e];exact i6 _ c)⟩
 .intro x hx y c
  rcases aT.mp hx with hx|hx
  .exact m.la x hx y (by rw[e];exact d8 _ c)
  .exact g.2.2 x hx y c
 .intro x hx y c
  rcases aT.mp hx with hx|hx
  .exact m.lb x hx y c
  .exact h x hx y c
theorem MI.jD{a b out:List Keyed}{f d:Nat}(m:MI G r a b out f d)(k:Nat)(sb:b.Pairwise (Le r))(h:∀x∈(b.drop d).take k,∀y∈a.drop f,Le r x y):
  MI G r a b (out++(b.drop d).take k) f (d+k):=by
 have e:=ki b d k;have g:(b.drop d).Pairwise (Le r):=sb.sublist (fK _ _);rw[e,bS] at g;refine⟨?_,?_,?_,?_⟩
 .rw[take_add,<-aW]
  exact fY _ m.pm
 .exact bS.mpr ⟨m.so,g.1,λx hx y c=>m.lb x hx y (by rw[e];exact i6 _ c)⟩
 .intro x hx y c
  rcases aT.mp hx with hx|hx
  .exact m.la x hx y c
  .exact h x hx y c
 .intro x hx y c
  rcases aT.mp hx with hx|hx
  .exact m.lb x hx y (by rw[e];exact d8 _ c)
  .exact g.2.2 x hx y c
abbrev Mg(r:Keyed->Keyed->Bool)(a b out:List Keyed):Prop:=out.Perm (a++b)/\out.Pairwise (Le r)
theorem MI.zO{a b out:List Keyed}{d c:Nat}(m:MI G r a b out d c)(sa:a.Pairwise (Le r))(e:b.length<=c):Mg r a b (out++a.drop d++b.drop c):=by
 rw[iW e,e8];refine⟨?_,bS.mpr ⟨m.so,sa.sublist (fK _ _),λx f y g=>m.la x f y g⟩⟩;have:=m.pm;rw[fG e] at this;refine(fY _ this).trans ?_;rw[aW];refine(fH _ gD).trans ?_;rw[<-aW,cK]
theorem MI.zN{a b out:List Keyed}{c d:Nat}(m:MI G r a b out c d)(sb:b.Pairwise (Le r))(e:a.length<=c):Mg r a b (out++a.drop c++b.drop d):=by
 rw[iW e,e8];refine⟨?_,bS.mpr ⟨m.so,sb.sublist (fK _ _),λx f y g=>m.lb x f y g⟩⟩;have:=m.pm;rw[fG e] at this;refine(fY _ this).trans ?_;rw[aW,cK]
theorem MI.BU{a b out:List Keyed}{c d:Nat}(m:MI G r a b out c d)(sa:a.Pairwise (Le r))(sb:b.Pairwise (Le r))(h:∀x∈b.drop d,∀y∈a.drop c,Le r x y):Mg r a b (out++b.drop d++a.drop c):=by
 refine⟨?_,?_⟩
 .rw[aW]
  refine(Perm.append m.pm gD).trans ?_;rw[aW];have e:(a++b).Perm ((a.take c++a.drop c)++(b.take d++b.drop d)):=by rw[cK,cK]
  refine Perm.trans ?_ e.symm;rw[aW];refine fH _ ?_;rw[<-aW,<-aW];exact fY _ gD
 .rw[aW]
  refine bS.mpr ⟨m.so,bS.mpr ⟨sb.sublist (fK _ _),sa.sublist (fK _ _),h⟩,?_⟩;intro x f y hy;rcases aT.mp hy with hy|hy
  .exact m.lb x f y hy
  .exact m.la x f y hy
end
abbrev jb:=Option (Array Keyed)×Array Keyed×Nat×Nat×Nat×Nat
abbrev fk:=Option (Array Keyed)×Array Keyed×Nat×Nat×Nat×Nat×Nat
abbrev SM:=StateT SortSt Sem
abbrev fz(a b out:Array Keyed)(ia ib:Nat):Array Keyed:=out++a.extract ia a.size++b.extract ib b.size
abbrev ju(a b out:Array Keyed)(ia ib:Nat):Array Keyed:=out++b.extract ib b.size++a.extract ia a.size
def k9(a b:Array Keyed)(mg:Nat)(c:jb):SM (ForInStep jb):=do
 let y <-elem' b c.2.2.2.1
 let x <-elem' a c.2.2.1
 match <-lt' y x with
 |some w=>
  if w then
   let e <-elem' b c.2.2.2.1
   if c.2.2.2.1+1==b.size then pure (.done (some (fz a b (c.2.1.push e) c.2.2.1 (c.2.2.2.1+1)),c.2.1.push e,c.2.2.1,c.2.2.2.1+1,0,c.2.2.2.2.2+1))
   else if c.2.2.2.2.2+1≥mg then pure (.done (none,c.2.1.push e,c.2.2.1,c.2.2.2.1+1,0,c.2.2.2.2.2+1))
   else pure (.yield (none,c.2.1.push e,c.2.2.1,c.2.2.2.1+1,0,c.2.2.2.2.2+1))
  else
   let e <-elem' a c.2.2.1
   if c.2.2.1+1+1==a.size then pure (.done (some (ju a b (c.2.1.push e) (c.2.2.1+1) c.2.2.2.1),c.2.1.push e,c.2.2.1+1,c.2.2.2.1,c.2.2.2.2.1+1,0))
   else if c.2.2.2.2.1+1≥mg then pure (.done (none,c.2.1.push e,c.2.2.1+1,c.2.2.2.1,c.2.2.2.2.1+1,0))
   else pure (.yield (none,c.2.1.push e,c.2.2.1+1,c.2.2.2.1,c.2.2.2.2.1+1,0))
 |_=>pure (.done (some (fz a b c.2.1 c.2.2.1 c.2.2.2.1),c.2.1,c.2.2.1,c.2.2.2.1,c.2.2.2.2.1,c.2.2.2.2.2))
def g3(a b out:Array Keyed)(ia ib mg k k1:Nat):SM (ForInStep fk):=do
 let e <-elem' a ia
 if ia+1+1==a.size then pure (.done (some (ju a b (out.push e) (ia+1) ib),out.push e,ia+1,ib,mg,k,k1))
 else if decide (k<7)&&decide (k1<7) then pure (.done (none,out.push e,ia+1,ib,mg,k,k1))
 else pure (.yield (none,out.push e,ia+1,ib,mg,k,k1))
def g2(a b out:Array Keyed)(ia ib mg k bc:Nat):SM (ForInStep fk):=do
 let e <-elem' b ib
 if ib+1==b.size then pure (.done (some (fz a b (out.push e) ia (ib+1)),out.push e,ia,ib+1,mg,k,bc))
 else do
  let x <-elem' a ia
  match <-dH true x b (ib+1) (b.size - (ib+1)) 0 with
  |some k1=>
   if k1>0 then
    if ib+1+k1==b.size then pure (.done (some (fz a b (out.push e++b.extract (ib+1) (ib+1+k1)) ia (ib+1+k1)),out.push e++b.extract (ib+1) (ib+1+k1),ia,ib+1+k1,mg,k,k1))
    else g3 a b (out.push e++b.extract (ib+1) (ib+1+k1)) ia (ib+1+k1) mg k k1
   else g3 a b (out.push e) ia (ib+1) mg k k1
  |_=>pure (.done (some (fz a b (out.push e) ia (ib+1)),out.push e,ia,ib+1,mg,k,bc))
def g1(a b out:Array Keyed)(ia ib mg ac bc:Nat):SM (ForInStep fk):=do
 modify (λs=>aS s mg)
 let y <-elem' b ib
 match <-dH false y a ia (a.size - ia) 0 with
 |some k=>
  if k>0 then
   if ia+k+1==a.size then pure (.done (some (ju a b (out++a.extract ia (ia+k)) (ia+k) ib),out++a.extract ia (ia+k),ia+k,ib,mg,k,bc))
   else if ia+k==a.size then pure (.done (some (fz a b (out++a.extract ia (ia+k)) (ia+k) ib),out++a.extract ia (ia+k),ia+k,ib,mg,k,bc))
   else g2 a b (out++a.extract ia (ia+k)) (ia+k) ib mg k bc
  else g2 a b out ia ib mg k bc
 |_=>pure (.done (some (fz a b out ia ib),out,ia,ib,mg,ac,bc))
def k_(a b:Array Keyed)(c:fk):SM (ForInStep fk):=
 if c.2.2.2.2.1>1 then g1 a b c.2.1 c.2.2.1 c.2.2.2.1 (c.2.2.2.2.1 - 1) c.2.2.2.2.2.1 c.2.2.2.2.2.2 else g1 a b c.2.1 c.2.2.1 c.2.2.2.1 c.2.2.2.2.1 c.2.2.2.2.2.1 c.2.2.2.2.2.2
abbrev iC:=Option (Array Keyed)×Array Keyed×Nat×Nat×Nat
def turn(a b:Array Keyed)(c:iC):SM (ForInStep iC):=do
 let c1 <-forIn [0:a.size+b.size] ((none,c.2.1,c.2.2.1,c.2.2.2.1,0,0):jb) λ_ c1=>k9 a b c.2.2.2.2 c1
 match c1.1 with
 |some r=>pure (.done (some r,c1.2.1,c1.2.2.1,c1.2.2.2.1,c.2.2.2.2))
 |none=>do
  rule "list.sort.gallop"
  let c2 <-forIn [0:a.size+b.size] ((none,c1.2.1,c1.2.2.1,c1.2.2.2.1,c.2.2.2.2+1,c1.2.2.2.2.1,c1.2.2.2.2.2):fk) λ_ c2=>k_ a b c2
  match c2.1 with
  |some r=>pure (.done (some r,c2.2.1,c2.2.2.1,c2.2.2.2.1,c2.2.2.2.2.1))
  |none=>do
   modify (λs=>aS s (c2.2.2.2.2.1+1))
   pure (.yield (none,c2.2.1,c2.2.2.1,c2.2.2.2.1,c2.2.2.2.2.1+1))
theorem Ci(a b:Array Keyed):kQ a b=(do
 rule "list.sort.merge-lo"
 let e <-elem' b 0
 if 1==b.size then pure (fz a b #[e] 0 1)
 else if 0+1==a.size then pure (ju a b #[e] 0 1)
 else do
  let st <-get
  let c <-forIn [0:a.size+b.size] ((none,#[e],0,1,gallopOf st):iC) λ_ c=>turn a b c
  match c.1 with
  |some r=>pure r
  |none=>unsupported "internal:list.sort.merge-bound"):=by
 rw[Cg]
 dsimp only[turn,k9,k_,g1,g2,g3,fz,ju]
 congr 1;funext _;congr 1;funext e;congr 1;congr 1;congr 1;funext st;congr 1;congr 1;funext x c;congr 1;funext d;congr 1;
 .cases d.fst with
  |some r=>rfl
  |none=>
   dsimp only
   congr 1;funext _;congr 1
   funext x
   cases x.fst with
   |some r=>rfl
   |none=>rfl
 .funext c
  cases c.fst with
  |some r=>rfl
  |none=>rfl
section
variable{M:Model}{A:Around}{E:aA}{s:Shared}{C:SortKind}{G:Keyed->Prop}{r:Keyed->Keyed->Bool}
abbrev seg(arr:Array Keyed)(base n:Nat):List Keyed:=(arr.toList.drop base).take n
abbrev oW(r:Keyed->Keyed->Bool)(left:Bool)(key x:Keyed):Bool:=if left then r x key else !r key x
theorem jz{arr:Array Keyed}{base n i:Nat}(hi:i<n):(seg arr base n)[i]?=arr.toList[base+i]? :=by
 rw[List.getElem?_take,ai hi,List.getElem?_drop]
theorem jq(cp:Cp M A E s C G r){left:Bool}{key:Keyed}{arr:Array Keyed}{base n hint:Nat}{st:SortSt}{Q:Option Nat->SortSt->Prop}(hk:kindOf st=C)(f:G key)
  (hn:base+n<=arr.size)(u:hint<n)(ga:∀x∈seg arr base n,G x)(sa:(seg arr base n).Pairwise (Le r))
  (h:∀k,k<=n->(∀x∈(seg arr base n).take k,oW r left key x=true)->(∀x∈(seg arr base n).drop k,oW r left key x=false)->Q (some k) st):
  wpS M A E s (dH left key arr base n hint) Q st:=by
 have B:(seg arr base n).length=n:=by
  rw[dZ,dY,bu];omega
 have get:∀i,i<n->∃x,arr.toList[base+i]? =some x/\x∈seg arr base n:=λi hi=>by
  have:i<(seg arr base n).length:=by omega
  refine⟨(seg arr base n)[i],?_,bM this⟩
  rw[<-jz hi,bf this]
 refine AI (C:=C) (b:=λi=>match arr.toList[base+i]? with|some x=>oW r left key x|none=>false) hk u ?_ ?_ ?_
 .intro i hi Q hq
  obtain⟨x,e,a⟩:=get i hi
  rw[e] at hq
  have c:base+i<arr.size:=by omega
  have ex:arr.toList[base+i]=x:=by
   have:=bf (l:=arr.toList) (i:=base+i) (by simpa using c)
   rw[this] at e
   exact Option.some.inj e
  unfold jc
  refine au (b5 c ?_)
  rw[ex]
  cases left with
  |true=>exact cp.lt (ga x a) f hk hq
  |false=>
   refine au (cp.lt f (ga x a) hk ?_)
   exact aB hq
 .intro i j v q g
  obtain⟨x,e,a⟩:=get i (by omega)
  obtain⟨y,m,t⟩:=get j q
  rw[m] at g
  rw[e]
  have xy:x=y\/Le r x y:=by
   rcases d7 i j with h'|h'
   .right
    have h1:=jz (arr:=arr) (base:=base) (n:=n) (i:=i) (by omega)
    have h2:=jz (arr:=arr) (base:=base) (n:=n) (i:=j) q
    rw[e] at h1;rw[m] at h2
    obtain⟨a1,a2⟩:=b6.mp h1
    obtain⟨w,z⟩:=b6.mp h2
    rw[<-a2,<-z]
    exact gC.mp sa i j a1 w h'
   .left
    have:i=j:=by omega
    subst this
    rw[e] at m;exact Option.some.inj m
  rcases xy with rfl|xy
  .exact g
  .cases left with
   |true=>
    show r x key=true
    cases ex:r x key with
    |true=>rfl
    |false=>
     have:r y key=false:=cp.tr f (ga x a) (ga y t) ex xy
     rw[show r y key=true from g] at this;cases this
   |false=>
    show(!r key x)=true
    have:r key y=false:=by simpa using g
    rw[cp.tr (ga x a) (ga y t) f xy this];rfl
 .intro k o h1 h2
  refine h k o (λx a=> ?_) (λx a=> ?_)
  .obtain⟨i,hi,e⟩:=List.mem_take_iff_getElem.mp a
   have p:i<k:=by omega
   have:=h1 i p
   have d:=jz (arr:=arr) (base:=base) (n:=n) (i:=i) (by omega)
   rw[bf (by omega),e] at d
   rw[<-d] at this
   exact this
  .obtain⟨i,hi,e⟩:=List.mem_drop_iff_getElem.mp a
   have:=h2 (k+i) (by omega) (by omega)
   have d:=jz (arr:=arr) (base:=base) (n:=n) (i:=k+i) (by omega)
   rw[bf (by omega),e] at d
   rw[<-d] at this
   exact this
end
section
variable{M:Model}{A:Around}{E:aA}{s:Shared}{C:SortKind}{G:Keyed->Prop}{r:Keyed->Keyed->Bool}{a b:Array Keyed}
structure MC(G:Keyed->Prop)(r:Keyed->Keyed->Bool)(a b:Array Keyed):Prop where
 ga:∀x∈a.toList,G x
 gb:∀x∈b.toList,G x
 sa:a.toList.Pairwise (Le r)
 sb:b.toList.Pairwise (Le r)
 la:∀x∈b.toList,∀y∈a.toList.drop (a.size - 1),Le r x y
theorem jl(a:Array Keyed)(i:Nat):(a.extract i a.size).toList=a.toList.drop i:=by
 rw[jI,n_];exact fG (by rw[dY,bu];exact aC _)
theorem pO(a:Array Keyed)(i k:Nat):(a.extract i (i+k)).toList=(a.toList.drop i).take k:=by
 rw[jI,n_,om]
theorem take1{a:Array Keyed}{i:Nat}(h:i<a.size):(a.toList.drop i).take 1=[a.toList[i]'h]:=by
 rw[List.take_one,List.head?_drop,bf (by simpa using h)];rfl
theorem B_{a:Array Keyed}{i:Nat}(h:i<a.size):a.toList[i]'h∈a.toList.drop i:=
 cA (i:=1) (by rw[take1 h];exact bF.mpr rfl)
theorem ud{a:Array Keyed}{i:Nat}(h:i<a.size)(sa:a.toList.Pairwise (Le r)){x:Keyed}(hx:x∈a.toList.drop i):x=a.toList[i]'h\/Le r (a.toList[i]'h) x:=by
 have e:=ki a.toList i 1;rw[take1 h] at e;have b:(a.toList.drop i).Pairwise (Le r):=sa.sublist (fK _ _);rw[e] at hx b;rcases aT.mp hx with hx|hx
 .exact .inl (bF.mp hx)
 .exact .inr ((bS.mp b).2.2 _ (bF.mpr rfl) x hx)
variable(cp:Cp M A E s C G r)(mc:MC G r a b)
abbrev Fin(r:Keyed->Keyed->Bool)(a b o:Array Keyed):Prop:=Mg r a.toList b.toList o.toList
abbrev MJ(G:Keyed->Prop)(r:Keyed->Keyed->Bool)(a b o:Array Keyed)(ia ib:Nat):Prop:=MI G r a.toList b.toList o.toList ia ib
include mc
theorem mu{out:Array Keyed}{d c:Nat}(m:MJ G r a b out d c)(h:c=b.size):Fin r a b (fz a b out d c):=by
 show Mg r a.toList b.toList _;rw[dg,dg,jl,jl];exact m.zO mc.sa (by rw[h,bu];exact aC _)
theorem zK{out:Array Keyed}{c d:Nat}(m:MJ G r a b out c d)(h:c=a.size):Fin r a b (fz a b out c d):=by
 show Mg r a.toList b.toList _;rw[dg,dg,jl,jl];exact m.zN mc.sb (by rw[h,bu];exact aC _)
theorem mR{out:Array Keyed}{c d:Nat}(m:MJ G r a b out c d)(h:c+1=a.size):Fin r a b (ju a b out c d):=by
 show Mg r a.toList b.toList _;rw[dg,dg,jl,jl];exact m.BU mc.sa mc.sb (λx e y f=>mc.la x (cF e) y (by rw[<-h,add_sub_cancel];exact f))
theorem FT{out:Array Keyed}{c d:Nat}(m:MJ G r a b out c d)(k:Nat)(h:∀x∈(a.toList.drop c).take k,∀y∈b.toList.drop d,Le r x y):MJ G r a b (out++a.extract c (c+k)) (c+k) d:=by
 show MI G r a.toList b.toList _ _ _;rw[dg,pO];exact m.lq k mc.sa h
theorem tkB{out:Array Keyed}{d c:Nat}(m:MJ G r a b out d c)(k:Nat)(h:∀x∈(b.toList.drop c).take k,∀y∈a.toList.drop d,Le r x y):MJ G r a b (out++b.extract c (c+k)) d (c+k):=by
 show MI G r a.toList b.toList _ _ _;rw[dg,pO];exact m.jD k mc.sb h
theorem pA{out:Array Keyed}{c d:Nat}(m:MJ G r a b out c d)(hi:c<a.size)(h:∀y∈b.toList.drop d,Le r (a.toList[c]'hi) y):MJ G r a b (out.push (a.toList[c]'hi)) (c+1) d:=by
 have:=m.lq 1 mc.sa (λx e y f=>by rw[take1 hi] at e;rw[bF.mp e];exact h y f);show MI G r a.toList b.toList _ _ _;rw[jJ,<-take1 hi];exact this
theorem pB{out:Array Keyed}{d c:Nat}(m:MJ G r a b out d c)(hi:c<b.size)(h:∀y∈a.toList.drop d,Le r (b.toList[c]'hi) y):MJ G r a b (out.push (b.toList[c]'hi)) d (c+1):=by
 have:=m.jD 1 mc.sb (λx e y f=>by rw[take1 hi] at e;rw[bF.mp e];exact h y f);show MI G r a.toList b.toList _ _ _;rw[jJ,<-take1 hi];exact this
include cp
theorem uF{x:Keyed}{b:Nat}(d:G x)(hi:b<a.size)(h:Le r x (a.toList[b]'hi)):∀y∈a.toList.drop b,Le r x y:=λy c=>by
 rcases ud hi mc.sa c with rfl|h'
 .exact h
 .exact cp.tr d (mc.ga _ (bM _)) (mc.ga y (cF c)) h h'
theorem leB{x:Keyed}{a:Nat}(d:G x)(hi:a<b.size)(h:Le r x (b.toList[a]'hi)):∀y∈b.toList.drop a,Le r x y:=λy c=>by
 rcases ud hi mc.sb c with rfl|h'
 .exact h
 .exact cp.tr d (mc.gb _ (bM _)) (mc.gb y (cF c)) h h'
theorem E_{out:Array Keyed}{j k ac x mg:Nat}{st:SortSt}{R:ForInStep jb->SortSt->Prop}(hk:kindOf st=C)(m:MJ G r a b out j k)(h1:j+1<a.size)(h2:k<b.size)
  (f:∀o c,Fin r a b o->R (.done (some o,c)) st)
  (go:∀g h i q t,MJ G r a b g h i->h+1<a.size->i<b.size->j+k<h+i->R (.done (none,g,h,i,q,t)) st/\R (.yield (none,g,h,i,q,t)) st):
  wpS M A E s (k9 a b mg (none,out,j,k,ac,x)) R st:=by
 have d:j<a.size:=by omega
 have v:=mc.ga _ (bM (l:=a.toList) (n:=j) d)
 have w:=mc.gb _ (bM (l:=b.toList) (n:=k) h2)
 unfold k9
 dsimp only
 refine au (b5 h2 (au (b5 d (au (cp.lt w v hk ?_)))))
 dsimp only
 cases e:r (b.toList[k]'h2) (a.toList[j]'d) with
 |true=>
  rw[ai rfl]
  refine au (b5 h2 ?_)
  have u:=pB mc m h2 (uF cp mc w d (cp.as w v e))
  by_cases p:k+1=b.size
  .rw[ai (by simpa using p)]
   exact aB (f _ _ (mu mc u p))
  .rw[aj (by simpa using p)]
   have:=go _ _ _ 0 (x+1) u h1 (by omega) (by omega)
   split
   .exact aB this.1
   .exact aB this.2
 |false=>
  rw[aj (by simp)]
  refine au (b5 d ?_)
  have u:=pA mc m d (leB cp mc v h2 e)
  by_cases p:j+1+1=a.size
  .rw[ai (by simpa using p)]
   exact aB (f _ _ (mR mc u p))
  .rw[aj (by simpa using p)]
   have:=go _ _ _ (ac+1) 0 u (by omega) h2 (by omega)
   split
   .exact aB this.1
   .exact aB this.2
theorem tV{out:Array Keyed}{h j mg k k1:Nat}{st:SortSt}{R:ForInStep fk->SortSt->Prop}(m:MJ G r a b out h j)(h1:h+1<a.size)(h2:j<b.size)(i:h<a.size)(u:∀y∈b.toList.drop j,Le r (a.toList[h]'i) y)
  (f:∀o c,Fin r a b o->R (.done (some o,c)) st)
  (go:∀d e g l n p,MJ G r a b d e g->e+1<a.size->g<b.size->h+j<e+g->R (.done (none,d,e,g,l,n,p)) st/\R (.yield (none,d,e,g,l,n,p)) st):
  wpS M A E s (g3 a b out h j mg k k1) R st:=by
 unfold g3
 refine au (b5 i ?_)
 have t:=pA mc m i u
 by_cases q:h+1+1=a.size
 .rw[ai (by simpa using q)]
  exact aB (f _ _ (mR mc t q))
 .rw[aj (by simpa using q)]
  have:=go _ _ _ mg k k1 t (by omega) h2 (by omega)
  split
  .exact aB this.1
  .exact aB this.2
theorem tU{out:Array Keyed}{u t mg k S:Nat}{st:SortSt}{R:ForInStep fk->SortSt->Prop}(hk:kindOf st=C)(m:MJ G r a b out u t)(h1:u+1<a.size)(h2:t<b.size)(v:∀y∈a.toList.drop u,Le r (b.toList[t]'h2) y)
  (f:∀o c,Fin r a b o->R (.done (some o,c)) st)
  (go:∀e h p w z B,MJ G r a b e h p->h+1<a.size->p<b.size->u+t<h+p->R (.done (none,e,h,p,w,z,B)) st/\R (.yield (none,e,h,p,w,z,B)) st):
  wpS M A E s (g2 a b out u t mg k S) R st:=by
 have q:u<a.size:=by omega
 have O:=mc.ga _ (bM (l:=a.toList) (n:=u) q)
 unfold g2
 refine au (b5 h2 ?_)
 have F:=pB mc m h2 v
 by_cases H:t+1=b.size
 .rw[ai (by simpa using H)]
  exact aB (f _ _ (mu mc F H))
 .rw[aj (by simpa using H)]
  refine au (b5 q ?_)
  have es:seg b (t+1) (b.size - (t+1))=b.toList.drop (t+1):=fG (by rw[dY,bu];exact aC _)
  refine au (jq cp hk O (by omega) (by omega) (by rw[es];exact λx v=>mc.gb x (cF v)) (by rw[es];exact mc.sb.sublist (fK _ _)) ?_)
  rw[es]
  intro k1 T t1 I
  rw[jM] at I
  dsimp only
  have P:=tkB mc F k1 (λx v y D=>uF cp mc (mc.gb x (cF (cA v))) q (cp.as (mc.gb x (cF (cA v))) O (t1 x v)) y D)
  by_cases Q:k1>0
  .rw[ai Q]
   by_cases J:t+1+k1=b.size
   .rw[ai (by simpa using J)]
    exact aB (f _ _ (mu mc P J))
   .rw[aj (by simpa using J)]
    exact tV cp mc P h1 (by omega) q (λy D=>I y D) f (λo i j g c d K L N U=>go o i j g c d K L N (by omega))
  .rw[aj Q]
   have:k1=0:=by omega
   subst this
   exact tV cp mc F h1 (by omega) q (λy D=>I y D) f (λo i j g c d K L N U=>go o i j g c d K L N (by omega))
theorem tS{out:Array Keyed}{e t mg ac L:Nat}{st:SortSt}{R:ForInStep fk->SortSt->Prop}(hk:kindOf st=C)(m:MJ G r a b out e t)(h1:e+1<a.size)(h2:t<b.size)
  (f:∀o c,Fin r a b o->R (.done (some o,c)) (aS st mg))
  (go:∀h p q u v w,MJ G r a b h p q->p+1<a.size->q<b.size->e+t<p+q->R (.done (none,h,p,q,u,v,w)) (aS st mg)/\R (.yield (none,h,p,q,u,v,w)) (aS st mg)):
  wpS M A E s (g1 a b out e t mg ac L) R st:=by
 have N:e<a.size:=by omega
 have I:=mc.gb _ (bM (l:=b.toList) (n:=t) h2)
 unfold g1
 refine au (eF (au (b5 h2 ?_)))
 have es:seg a e (a.size - e)=a.toList.drop e:=fG (by rw[dY,bu];exact aC _)
 refine au (jq cp hk I (by omega) (by omega) (by rw[es];exact λx z=>mc.ga x (cF z)) (by rw[es];exact mc.sa.sublist (fK _ _)) ?_)
 rw[es]
 intro k O t1 J
 rw[jM] at J
 dsimp only
 have D:=FT mc m k (λx z y B=>leB cp mc (mc.ga x (cF (cA z))) h2 (by have:=t1 x z;simpa using this) y B)
 have t3:∀y∈a.toList.drop (e+k),Le r (b.toList[t]'h2) y:=λy B=>cp.as I (mc.ga y (cF B)) (by have:=J y B;simpa using this)
 by_cases K:k>0
 .rw[ai K]
  by_cases F:e+k+1=a.size
  .rw[ai (by simpa using F)]
   exact aB (f _ _ (mR mc D F))
  .rw[aj (by simpa using F)]
   by_cases H:e+k=a.size
   .rw[ai (by simpa using H)]
    exact aB (f _ _ (zK mc D H))
   .rw[aj (by simpa using H)]
    exact tU cp mc hk D (by omega) h2 t3 f (λo i j g c d P Q S T=>go o i j g c d P Q S (by omega))
 .rw[aj K]
  have:k=0:=by omega
  subst this
  exact tU cp mc hk m h1 h2 t3 f go
theorem Fb{out:Array Keyed}{t u mg ac z:Nat}{st:SortSt}{R:ForInStep fk->SortSt->Prop}(hk:kindOf st=C)(m:MJ G r a b out t u)(h1:t+1<a.size)(h2:u<b.size)
  (f:∀o c g,Fin r a b o->R (.done (some o,c)) (aS st g))
  (go:∀e h k l n p g,MJ G r a b e h k->h+1<a.size->k<b.size->t+u<h+k->R (.done (none,e,h,k,l,n,p)) (aS st g)/\R (.yield (none,e,h,k,l,n,p)) (aS st g)):
  wpS M A E s (k_ a b (none,out,t,u,mg,ac,z)) R st:=by
 unfold k_
 dsimp only
 split
 .exact tS cp mc hk m h1 h2 (λo c q=>f o c _ q) (λo i j g c d v w x y=>go o i j g c d _ v w x y)
 .exact tS cp mc hk m h1 h2 (λo c q=>f o c _ q) (λo i j g c d v w x y=>go o i j g c d _ v w x y)
end
def qQ(a b:Array Keyed)(kR:Nat)(c1:jb):SM (ForInStep iC):=
 match c1.1 with
 |some r=>pure (.done (some r,c1.2.1,c1.2.2.1,c1.2.2.2.1,kR))
 |none=>do
  rule "list.sort.gallop"
  let c2 <-forIn [0:a.size+b.size] ((none,c1.2.1,c1.2.2.1,c1.2.2.2.1,kR+1,c1.2.2.2.2.1,c1.2.2.2.2.2):fk) λ_ c2=>k_ a b c2
  match c2.1 with
  |some r=>pure (.done (some r,c2.2.1,c2.2.2.1,c2.2.2.2.1,c2.2.2.2.2.1))
  |none=>do
   modify (λs=>aS s (c2.2.2.2.2.1+1))
   pure (.yield (none,c2.2.1,c2.2.2.1,c2.2.2.2.1,c2.2.2.2.2.1+1))
theorem FZ(a b:Array Keyed)(c:iC):turn a b c=(do
 let d <-forIn [0:a.size+b.size] ((none,c.2.1,c.2.2.1,c.2.2.2.1,0,0):jb) λ_ d=>k9 a b c.2.2.2.2 d
 qQ a b c.2.2.2.2 d):=rfl
section
variable{M:Model}{A:Around}{E:aA}{s:Shared}{C:SortKind}{G:Keyed->Prop}{r:Keyed->Keyed->Bool}{a b:Array Keyed}
variable(cp:Cp M A E s C G r)(mc:MC G r a b)
include cp mc
theorem xq{out:Array Keyed}{n p mg u v:Nat}{st:SortSt}{R:ForInStep iC->SortSt->Prop}(hk:kindOf st=C)(m:MJ G r a b out n p)(h1:n+1<a.size)(h2:p<b.size)
  (f:∀o c g,Fin r a b o->R (.done (some o,c)) (aS st g))
  (go:∀h d e k g,MJ G r a b h d e->d+1<a.size->e<b.size->n+p<d+e->R (.yield (none,h,d,e,k)) (aS st g)):
  wpS M A E s (qQ a b mg (none,out,n,p,u,v)) R st:=by
 unfold qQ
 dsimp only
 refine au (jF ?_)
 refine au (di (I:=λx c l=>∃g,l=aS st g/\∃o i j q u v,c=(none,o,i,j,q,u,v)/\MJ G r a b o i j/\i+1<a.size/\j<b.size/\n+p+x<=i+j) ?_ ?_ ⟨gallopOf st,rfl,out,n,p,_,_,_,rfl,m,h1,h2,by omega⟩)
 .rintro x c l _ O ⟨g,rfl,o,i,j,q,u,v,rfl,t,w,y,F⟩
  refine Fb cp mc hk t w y ?_ ?_
  .intro o' c g' H
   dsimp only
   exact aB (f _ _ _ H)
  .intro o' J K k L N g' z B D P
   refine⟨?_,⟨g',rfl,o',J,K,k,L,N,rfl,z,B,D,by omega⟩⟩
   dsimp only
   refine au (eF (aB ?_))
   exact go _ _ _ _ _ z B D (by omega)
 .rintro c l ⟨g,rfl,o,i,j,q,u,v,rfl,t,w,y,F⟩
  dsimp only
  refine au (eF (aB ?_))
  exact go _ _ _ _ _ t w y (by omega)
theorem F1{out:Array Keyed}{l n mg:Nat}{st:SortSt}{R:ForInStep iC->SortSt->Prop}(hk:kindOf st=C)(m:MJ G r a b out l n)(h1:l+1<a.size)(h2:n<b.size)
  (f:∀o c g,Fin r a b o->R (.done (some o,c)) (aS st g))
  (go:∀h d e q g,MJ G r a b h d e->d+1<a.size->e<b.size->l+n<d+e->R (.yield (none,h,d,e,q)) (aS st g)):
  wpS M A E s (turn a b (none,out,l,n,mg)) R st:=by
 rw[FZ]
 dsimp only
 refine au (di (I:=λx c k=>∃g,k=aS st g/\∃o i j u v,c=(none,o,i,j,u,v)/\MJ G r a b o i j/\i+1<a.size/\j<b.size/\l+n+x<=i+j) ?_ ?_ ⟨gallopOf st,rfl,out,l,n,0,0,rfl,m,h1,h2,by omega⟩)
 .rintro x c k _ P ⟨g,rfl,o,i,j,u,v,rfl,t,w,y,H⟩
  refine E_ cp mc hk t w y ?_ ?_
  .intro o' c p
   exact aB (f _ _ _ p)
  .intro o' J K L N B D F Q
   refine⟨?_,⟨g,rfl,o',J,K,L,N,rfl,B,D,F,by omega⟩⟩
   exact xq cp mc hk B D F (λo c g p=>f o c g p) (λo i j m g a1 a2 z O=>go o i j m g a1 a2 z (by omega))
 .rintro c k ⟨g,rfl,o,i,j,u,v,rfl,t,w,y,H⟩
  exact xq cp mc hk t w y (λo c g p=>f o c g p) (λo i j m g a1 a2 z O=>go o i j m g a1 a2 z (by omega))
theorem Cj{st:SortSt}{Q:Array Keyed->SortSt->Prop}(hk:kindOf st=C)(na:0<a.size)(nb:0<b.size)(h1:∀y∈b.toList.take 1,∀x∈a.toList,Le r y x)
  (h:∀out g,Fin r a b out->Q out (aS st g)):wpS M A E s (kQ a b) Q st:=by
 rw[Ci];refine au (jF ?_);refine au (b5 nb ?_);have m0:MJ G r a b #[b.toList[0]'nb] 0 1:=by
  have m:MI G r a.toList b.toList [] 0 0:=⟨by simp,Pairwise.nil,λx e=>by simp at e,λx e=>by simp at e⟩;have:=m.jD 1 mc.sb (λx e y u=>h1 x (by simpa using e) y (by simpa using u));rw[take1 nb] at this;exact this
 by_cases f:1=b.size
 .rw[ai (by simpa using f)]
  exact aB (h _ (gallopOf st) (mu mc m0 f))
 .rw[aj (by simpa using f)]
  by_cases k:0+1=a.size
  .rw[ai (by simpa using k)]
   exact aB (h _ (gallopOf st) (mR mc m0 k))
  .rw[aj (by simpa using k)]
   refine au (fX ?_);refine au (di (I:=λx c d=>∃g,d=aS st g/\∃o i j q,c=(none,o,i,j,q)/\MJ G r a b o i j/\i+1<a.size/\j<b.size/\x+1<=i+j) ?_ ?_ ⟨gallopOf st,rfl,_,0,1,_,rfl,m0,by omega,by omega,by omega⟩)
   .rintro x c d _ e ⟨g,rfl,o,i,j,q,rfl,n,p,t,v⟩
    refine F1 cp mc hk n p t ?_ ?_
    .intro o' c g' w
     exact aB (h _ _ w)
    .intro o' z B l g' D F H J
     exact⟨g',rfl,o',z,B,l,rfl,D,F,H,by omega⟩
   .rintro c d ⟨g,rfl,o,i,j,q,rfl,n,p,t,v⟩
    exfalso;omega
end
theorem Cd(a b:Array Keyed):kP a b=(do
 rule "list.sort.merge-hi"
 let total:=a.size+b.size
 let done (out:Array Keyed) (na nb:Nat):=a.extract 0 na++b.extract 0 nb++out.reverse
 let c (out:Array Keyed) (na nb:Nat):=b.extract 0 nb++a.extract 0 na++out.reverse
 let mut na:=a.size - 1
 let mut nb:=b.size
 let mut out:Array Keyed:= #[<-elem' a na]
 if na==0 then return done out na nb
 if nb==1 then return c out na nb
 let mut minGallop:=gallopOf (<-get)
 for _ in [0:total] do
  let mut d:=0
  let mut e:=0
  for _ in [0:total] do
   let some f <-lt' (<-elem' b (nb - 1)) (<-elem' a (na - 1))|return done out na nb
   if f then
    na:=na - 1;out:=out.push (<-elem' a na);d:=d+1;e:=0
    if na==0 then return done out na nb
    if d≥minGallop then break
   else
    nb:=nb - 1;out:=out.push (<-elem' b nb);e:=e+1;d:=0
    if nb==1 then return c out na nb
    if e≥minGallop then break
  rule "list.sort.gallop"
  minGallop:=minGallop+1
  for _ in [0:total] do
   if minGallop>1 then minGallop:=minGallop - 1
   modify (λs=>aS s minGallop)
   let some at_ <-dH false (<-elem' b (nb - 1)) a 0 na (na - 1)|return done out na nb
   let k:=na - at_
   d:=k
   if k>0 then
    out:=out++(a.extract at_ na).reverse;na:=at_
    if na==0 then return done out na nb
   nb:=nb - 1;out:=out.push (<-elem' b nb)
   if nb==1 then return c out na nb
   let some at_ <-dH true (<-elem' a (na - 1)) b 0 nb (nb - 1)|return done out na nb
   let k:=nb - at_
   e:=k
   if k>0 then
    out:=out++(b.extract at_ nb).reverse;nb:=at_
    if nb==1 then return c out na nb
    if nb==0 then return done out na nb
   na:=na - 1;out:=out.push (<-elem' a na)
   if na==0 then return done out na nb
   if d<7&&e<7 then break
  minGallop:=minGallop+1
  modify (λs=>aS s minGallop)
 unsupported "internal:list.sort.merge-bound"):=rfl
abbrev fO(a b out:Array Keyed)(na nb:Nat):Array Keyed:=a.extract 0 na++b.extract 0 nb++out.reverse
abbrev jm(a b out:Array Keyed)(na nb:Nat):Array Keyed:=b.extract 0 nb++a.extract 0 na++out.reverse
abbrev jW:=Option (Array Keyed)×Nat×Nat×Array Keyed×Nat×Nat
abbrev fL:=Option (Array Keyed)×Nat×Nat×Array Keyed×Nat×Nat×Nat
abbrev i_:=Option (Array Keyed)×Nat×Nat×Array Keyed×Nat
def mG(a b:Array Keyed)(mg:Nat)(c:jW):SM (ForInStep jW):=do
 let y <-elem' b (c.2.2.1 - 1)
 let x <-elem' a (c.2.1 - 1)
 match <-lt' y x with
 |some w=>
  if w then
   let e <-elem' a (c.2.1 - 1)
   if c.2.1 - 1==0 then pure (.done (some (fO a b (c.2.2.2.1.push e) (c.2.1 - 1) c.2.2.1),c.2.1 - 1,c.2.2.1,c.2.2.2.1.push e,c.2.2.2.2.1+1,0))
   else if c.2.2.2.2.1+1≥mg then pure (.done (none,c.2.1 - 1,c.2.2.1,c.2.2.2.1.push e,c.2.2.2.2.1+1,0))
   else pure (.yield (none,c.2.1 - 1,c.2.2.1,c.2.2.2.1.push e,c.2.2.2.2.1+1,0))
  else
   let e <-elem' b (c.2.2.1 - 1)
   if c.2.2.1 - 1==1 then pure (.done (some (jm a b (c.2.2.2.1.push e) c.2.1 (c.2.2.1 - 1)),c.2.1,c.2.2.1 - 1,c.2.2.2.1.push e,0,c.2.2.2.2.2+1))
   else if c.2.2.2.2.2+1≥mg then pure (.done (none,c.2.1,c.2.2.1 - 1,c.2.2.2.1.push e,0,c.2.2.2.2.2+1))
   else pure (.yield (none,c.2.1,c.2.2.1 - 1,c.2.2.2.1.push e,0,c.2.2.2.2.2+1))
 |_=>pure (.done (some (fO a b c.2.2.2.1 c.2.1 c.2.2.1),c.2.1,c.2.2.1,c.2.2.2.1,c.2.2.2.2.1,c.2.2.2.2.2))
def h3(a b out:Array Keyed)(na nb mg k k1:Nat):SM (ForInStep fL):=do
 let e <-elem' a (na - 1)
 if na - 1==0 then pure (.done (some (fO a b (out.push e) (na - 1) nb),na - 1,nb,out.push e,mg,k,k1))
 else if decide (k<7)&&decide (k1<7) then pure (.done (none,na - 1,nb,out.push e,mg,k,k1))
 else pure (.yield (none,na - 1,nb,out.push e,mg,k,k1))
def h2(a b out:Array Keyed)(na nb mg k bc:Nat):SM (ForInStep fL):=do
 let e <-elem' b (nb - 1)
 if nb - 1==1 then pure (.done (some (jm a b (out.push e) na (nb - 1)),na,nb - 1,out.push e,mg,k,bc))
 else do
  let x <-elem' a (na - 1)
  match <-dH true x b 0 (nb - 1) (nb - 1 - 1) with
  |some at_=>
   if nb - 1 - at_>0 then
    if at_==1 then pure (.done (some (jm a b (out.push e++(b.extract at_ (nb - 1)).reverse) na at_),na,at_,out.push e++(b.extract at_ (nb - 1)).reverse,mg,k,nb - 1 - at_))
    else if at_==0 then pure (.done (some (fO a b (out.push e++(b.extract at_ (nb - 1)).reverse) na at_),na,at_,out.push e++(b.extract at_ (nb - 1)).reverse,mg,k,nb - 1 - at_))
    else h3 a b (out.push e++(b.extract at_ (nb - 1)).reverse) na at_ mg k (nb - 1 - at_)
   else h3 a b (out.push e) na (nb - 1) mg k (nb - 1 - at_)
  |_=>pure (.done (some (fO a b (out.push e) na (nb - 1)),na,nb - 1,out.push e,mg,k,bc))
def h1(a b out:Array Keyed)(na nb mg ac bc:Nat):SM (ForInStep fL):=do
 modify (λs=>aS s mg)
 let y <-elem' b (nb - 1)
 match <-dH false y a 0 na (na - 1) with
 |some at_=>
  if na - at_>0 then
   if at_==0 then pure (.done (some (fO a b (out++(a.extract at_ na).reverse) at_ nb),at_,nb,out++(a.extract at_ na).reverse,mg,na - at_,bc))
   else h2 a b (out++(a.extract at_ na).reverse) at_ nb mg (na - at_) bc
  else h2 a b out na nb mg (na - at_) bc
 |_=>pure (.done (some (fO a b out na nb),na,nb,out,mg,ac,bc))
def mH(a b:Array Keyed)(c:fL):SM (ForInStep fL):=
 if c.2.2.2.2.1>1 then h1 a b c.2.2.2.1 c.2.1 c.2.2.1 (c.2.2.2.2.1 - 1) c.2.2.2.2.2.1 c.2.2.2.2.2.2 else h1 a b c.2.2.2.1 c.2.1 c.2.2.1 c.2.2.2.2.1 c.2.2.2.2.2.1 c.2.2.2.2.2.2
def mJ(a b:Array Keyed)(kR:Nat)(c1:jW):SM (ForInStep i_):=
 match c1.1 with
 |some r=>pure (.done (some r,c1.2.1,c1.2.2.1,c1.2.2.2.1,kR))
 |none=>do
  rule "list.sort.gallop"
  let c2 <-forIn [0:a.size+b.size] ((none,c1.2.1,c1.2.2.1,c1.2.2.2.1,kR+1,c1.2.2.2.2.1,c1.2.2.2.2.2):fL) λ_ c2=>mH a b c2
  match c2.1 with
  |some r=>pure (.done (some r,c2.2.1,c2.2.2.1,c2.2.2.2.1,c2.2.2.2.2.1))
  |none=>do
   modify (λs=>aS s (c2.2.2.2.2.1+1))
   pure (.yield (none,c2.2.1,c2.2.2.1,c2.2.2.2.1,c2.2.2.2.2.1+1))
def hturn(a b:Array Keyed)(c:i_):SM (ForInStep i_):=do
 let c1 <-forIn [0:a.size+b.size] ((none,c.2.1,c.2.2.1,c.2.2.2.1,0,0):jW) λ_ c1=>mG a b c.2.2.2.2 c1
 mJ a b c.2.2.2.2 c1
theorem Ce(a b:Array Keyed):kP a b=(do
 rule "list.sort.merge-hi"
 let e <-elem' a (a.size - 1)
 if a.size - 1==0 then pure (fO a b #[e] (a.size - 1) b.size)
 else if b.size==1 then pure (jm a b #[e] (a.size - 1) b.size)
 else do
  let st <-get
  let c <-forIn [0:a.size+b.size] ((none,a.size - 1,b.size,#[e],gallopOf st):i_) λ_ c=>hturn a b c
  match c.1 with
  |some r=>pure r
  |none=>unsupported "internal:list.sort.merge-bound"):=by
 rw[Cd]
 dsimp only[hturn,mJ,mG,mH,h1,h2,h3,fO,jm]
 congr 1;funext _;congr 1;funext e;congr 1;congr 1;congr 1;funext st;congr 1;congr 1;funext x c;congr 1;funext d;congr 1
 .cases d.fst with
  |some r=>rfl
  |none=>
   dsimp only
   congr 1;funext _;congr 1
   funext x
   cases x.fst with
   |some r=>rfl
   |none=>rfl
 .funext c
  cases c.fst with
  |some r=>rfl
  |none=>rfl
section
variable{G:Keyed->Prop}{r:Keyed->Keyed->Bool}
structure MH(r:Keyed->Keyed->Bool)(a b tl:List Keyed)(na nb:Nat):Prop where
 pm:tl.Perm (a.drop na++b.drop nb)
 so:tl.Pairwise (Le r)
 la:∀x∈a.take na,∀y∈tl,Le r x y
 lb:∀x∈b.take nb,∀y∈tl,Le r x y
abbrev mid(a:List Keyed)(at_ na:Nat):List Keyed:=(a.drop at_).take (na - at_)
theorem qM(a:List Keyed){at_ na:Nat}(h:at_<=na):a.take na=a.take at_++mid a at_ na:=by
 have:=take_add (l:=a) (i:=at_) (j:=na - at_);rw[Nat.add_sub_cancel' h] at this;exact this
theorem uW(a:List Keyed){at_ na:Nat}(h:at_<=na):a.drop at_=mid a at_ na++a.drop na:=by
 have:=ki a at_ (na - at_);rw[Nat.add_sub_cancel' h] at this;exact this
theorem MH.lq{a b tl:List Keyed}{na nb at_:Nat}(m:MH r a b tl na nb)(h:at_<=na)(sa:a.Pairwise (Le r))(d:∀x∈b.take nb,∀y∈mid a at_ na,Le r x y):MH r a b (mid a at_ na++tl) at_ nb:=by
 have e:=qM a h;have st:(a.take na).Pairwise (Le r):=sa.sublist (eZ _ _);rw[e,bS] at st;refine⟨?_,?_,?_,?_⟩
 .rw[uW a h,aW]
  exact fH _ m.pm
 .exact bS.mpr ⟨st.2.1,m.so,λx c y hy=>m.la x (by rw[e];exact d8 _ c) y hy⟩
 .intro x c y hy
  rcases aT.mp hy with hy|hy
  .exact st.2.2 x c y hy
  .exact m.la x (by rw[e];exact i6 _ c) y hy
 .intro x c y hy
  rcases aT.mp hy with hy|hy
  .exact d x c y hy
  .exact m.lb x c y hy
theorem MH.jD{a b tl:List Keyed}{na nb at_:Nat}(m:MH r a b tl na nb)(h:at_<=nb)(sb:b.Pairwise (Le r))(d:∀x∈a.take na,∀y∈mid b at_ nb,Le r x y):MH r a b (mid b at_ nb++tl) na at_:=by
 have e:=qM b h;have st:(b.take nb).Pairwise (Le r):=sb.sublist (eZ _ _);rw[e,bS] at st;refine⟨?_,?_,?_,?_⟩
 .rw[uW b h]
  refine(fH _ m.pm).trans ?_;rw[<-aW,<-aW];exact fY _ gD
 .exact bS.mpr ⟨st.2.1,m.so,λx c y hy=>m.lb x (by rw[e];exact d8 _ c) y hy⟩
 .intro x c y hy
  rcases aT.mp hy with hy|hy
  .exact d x c y hy
  .exact m.la x c y hy
 .intro x c y hy
  rcases aT.mp hy with hy|hy
  .exact st.2.2 x c y hy
  .exact m.lb x (by rw[e];exact i6 _ c) y hy
theorem MH.done{a b tl:List Keyed}{na nb:Nat}(m:MH r a b tl na nb)(sa:a.Pairwise (Le r))(sb:b.Pairwise (Le r))(h:na=0\/nb=0):Mg r a b (a.take na++b.take nb++tl):=by
 refine⟨?_,?_⟩
 .have e:(a++b).Perm ((a.take na++a.drop na)++(b.take nb++b.drop nb)):=by rw[cK,cK]
  refine Perm.trans ?_ e.symm;rw[aW,aW];refine fH _ ?_;refine(fH _ m.pm).trans ?_;rw[<-aW,<-aW];exact fY _ gD
 .rw[aW]
  refine bS.mpr ⟨sa.sublist (eZ _ _),bS.mpr ⟨sb.sublist (eZ _ _),m.so,λx c y hy=>m.lb x c y hy⟩,?_⟩;intro x c y hy;rcases aT.mp hy with hy|hy
  .rcases h with rfl|rfl
   .simp at c
   .simp at hy
  .exact m.la x c y hy
theorem MH.AA{a b tl:List Keyed}{na nb:Nat}(m:MH r a b tl na nb)(sa:a.Pairwise (Le r))(sb:b.Pairwise (Le r))(h:∀x∈b.take nb,∀y∈a.take na,Le r x y):Mg r a b (b.take nb++a.take na++tl):=by
 refine⟨?_,?_⟩
 .have e:(a++b).Perm ((a.take na++a.drop na)++(b.take nb++b.drop nb)):=by rw[cK,cK]
  refine Perm.trans ?_ e.symm;refine(Perm.append gD m.pm).trans ?_;rw[aW,aW];refine fH _ ?_;rw[<-aW,<-aW];exact fY _ gD
 .rw[aW]
  refine bS.mpr ⟨sb.sublist (eZ _ _),bS.mpr ⟨sa.sublist (eZ _ _),m.so,λx c y hy=>m.la x c y hy⟩,?_⟩;intro x c y hy;rcases aT.mp hy with hy|hy
  .exact h x c y hy
  .exact m.lb x c y hy
end
section
variable{M:Model}{A:Around}{E:aA}{s:Shared}{C:SortKind}{G:Keyed->Prop}{r:Keyed->Keyed->Bool}{a b:Array Keyed}
structure MD(G:Keyed->Prop)(r:Keyed->Keyed->Bool)(a b:Array Keyed):Prop where
 ga:∀x∈a.toList,G x
 gb:∀x∈b.toList,G x
 sa:a.toList.Pairwise (Le r)
 sb:b.toList.Pairwise (Le r)
 fb:∀x∈b.toList.take 1,∀y∈a.toList,Le r x y
abbrev MG(r:Keyed->Keyed->Bool)(a b o:Array Keyed)(na nb:Nat):Prop:=MH r a.toList b.toList o.toList.reverse na nb
theorem mE(a:Array Keyed)(n:Nat):(a.extract 0 n).toList=a.toList.take n:=by
 rw[jI,n_,Nat.sub_zero,drop_zero]
theorem pP(a:Array Keyed)(i n:Nat):(a.extract i n).toList=mid a.toList i n:=by
 rw[jI,n_]
theorem kT{a:Array Keyed}{n:Nat}(h:n<a.size):mid a.toList n (n+1)=[a.toList[n]'h]:=by
 unfold mid;rw[om];exact take1 h
theorem uD{a:Array Keyed}{n:Nat}(h:n<a.size)(sa:a.toList.Pairwise (Le r)){x:Keyed}(hx:x∈a.toList.take (n+1)):x=a.toList[n]'h\/Le r x (a.toList[n]'h):=by
 have e:=qM a.toList (at_:=n) (na:=n+1) (by omega);rw[kT h] at e;have b:(a.toList.take (n+1)).Pairwise (Le r):=sa.sublist (eZ _ _);rw[e] at hx b;rcases aT.mp hx with hx|hx
 .exact .inr ((bS.mp b).2.2 x hx _ (bF.mpr rfl))
 .exact .inl (bF.mp hx)
variable(cp:Cp M A E s C G r)(md:MD G r a b)
include md
theorem kh{out:Array Keyed}{na nb:Nat}(m:MG r a b out na nb)(h:na=0\/nb=0):Fin r a b (fO a b out na nb):=by
 show Mg r a.toList b.toList _;rw[dg,dg,mE,mE,n7];exact m.done md.sa md.sb h
theorem mF{out:Array Keyed}{na nb:Nat}(m:MG r a b out na nb)(h:nb=1):Fin r a b (jm a b out na nb):=by
 show Mg r a.toList b.toList _;rw[dg,dg,mE,mE,n7];exact m.AA md.sa md.sb (λx c y d=>md.fb x (by rw[<-h];exact c) y (cA d))
theorem Ba{out:Array Keyed}{na nb at_:Nat}(m:MG r a b out na nb)(h:at_<=na)(c:∀x∈b.toList.take nb,∀y∈mid a.toList at_ na,Le r x y):MG r a b (out++(a.extract at_ na).reverse) at_ nb:=by
 show MH r a.toList b.toList _ _ _;rw[dg,n7,n6,List.reverse_reverse,pP];exact m.lq h md.sa c
theorem Bb{out:Array Keyed}{na nb at_:Nat}(m:MG r a b out na nb)(h:at_<=nb)(c:∀x∈a.toList.take na,∀y∈mid b.toList at_ nb,Le r x y):MG r a b (out++(b.extract at_ nb).reverse) na at_:=by
 show MH r a.toList b.toList _ _ _;rw[dg,n7,n6,List.reverse_reverse,pP];exact m.jD h md.sb c
theorem pU{out:Array Keyed}{na nb:Nat}(hi:na<a.size)(m:MG r a b out (na+1) nb)(h:∀x∈b.toList.take nb,Le r x (a.toList[na]'hi)):MG r a b (out.push (a.toList[na]'hi)) na nb:=by
 have:=m.lq (at_:=na) (by omega) md.sa (λx d y c=>by rw[kT hi] at c;rw[bF.mp c];exact h x d);rw[kT hi] at this;show MH r a.toList b.toList _ _ _;rw[jJ,n6];exact this
theorem uh{out:Array Keyed}{na nb:Nat}(hi:nb<b.size)(m:MG r a b out na (nb+1))(h:∀x∈a.toList.take na,Le r x (b.toList[nb]'hi)):MG r a b (out.push (b.toList[nb]'hi)) na nb:=by
 have:=m.jD (at_:=nb) (by omega) md.sb (λx d y c=>by rw[kT hi] at c;rw[bF.mp c];exact h x d);rw[kT hi] at this;show MH r a.toList b.toList _ _ _;rw[jJ,n6];exact this
include cp
theorem uf{y:Keyed}{n:Nat}(c:G y)(hi:n<a.size)(h:Le r (a.toList[n]'hi) y):∀x∈a.toList.take (n+1),Le r x y:=λx b=>by
 rcases uD hi md.sa b with rfl|h'
 .exact h
 .exact cp.tr (md.ga x (cA b)) (md.ga _ (bM _)) c h' h
theorem ug{y:Keyed}{n:Nat}(c:G y)(hi:n<b.size)(h:Le r (b.toList[n]'hi) y):∀x∈b.toList.take (n+1),Le r x y:=λx a=>by
 rcases uD hi md.sb a with rfl|h'
 .exact h
 .exact cp.tr (md.gb x (cA a)) (md.gb _ (bM _)) c h' h
theorem A9{out:Array Keyed}{na nb ac w mg:Nat}{st:SortSt}{R:ForInStep jW->SortSt->Prop}(hk:kindOf st=C)(m:MG r a b out (na+1) (nb+2))(x:na+1<=a.size)(y:nb+2<=b.size)
  (f:∀o c,Fin r a b o->R (.done (some o,c)) st)
  (go:∀h i j p q,MG r a b h (i+1) (j+2)->i+1<=a.size->j+2<=b.size->i+j<na+nb->R (.done (none,i+1,j+2,h,p,q)) st/\R (.yield (none,i+1,j+2,h,p,q)) st):
  wpS M A E s (mG a b mg (none,na+1,nb+2,out,ac,w)) R st:=by
 have d:na<a.size:=by omega
 have g:nb+1<b.size:=by omega
 have u:=md.ga _ (bM (l:=a.toList) (n:=na) d)
 have v:=md.gb _ (bM (l:=b.toList) (n:=nb+1) g)
 unfold mG
 dsimp only[add_sub_cancel,Nat.add_one_sub_one]
 refine au (b5 g (au (b5 d (au (cp.lt v u hk ?_)))))
 dsimp only
 cases e:r (b.toList[nb+1]'g) (a.toList[na]'d) with
 |true=>
  rw[ai rfl]
  refine au (b5 d ?_)
  have t:=pU md d m (ug cp md u g (cp.as v u e))
  by_cases k:na=0
  .rw[ai (by simpa using k)]
   exact aB (f _ _ (kh md t (.inl k)))
  .rw[aj (by simpa using k)]
   obtain⟨n,rfl⟩:=lH k
   have:=go _ _ _ (ac+1) 0 t (by omega) y (by omega)
   split
   .exact aB this.1
   .exact aB this.2
 |false=>
  rw[aj (by simp)]
  refine au (b5 g ?_)
  have t:=uh md g m (uf cp md v d e)
  by_cases k:nb=0
  .subst k
   rw[ai (by simp)]
   exact aB (f _ _ (mF md t rfl))
  .rw[aj (by simpa using k)]
   obtain⟨n,rfl⟩:=lH k
   have:=go _ _ _ 0 (w+1) t x (by omega) (by omega)
   split
   .exact aB this.1
   .exact aB this.2
end
section
variable{M:Model}{A:Around}{E:aA}{s:Shared}{C:SortKind}{G:Keyed->Prop}{r:Keyed->Keyed->Bool}{a b:Array Keyed}
variable(cp:Cp M A E s C G r)(md:MD G r a b)
include cp md
theorem t8{out:Array Keyed}{na nb mg k k1:Nat}{st:SortSt}{R:ForInStep fL->SortSt->Prop}(m:MG r a b out (na+1) (nb+2))(h:na<a.size)(t:nb+2<=b.size)(u:∀y∈b.toList.take (nb+2),Le r y (a.toList[na]'h))
  (f:∀o c,Fin r a b o->R (.done (some o,c)) st)
  (go:∀d e g i j l,MG r a b d (e+1) (g+2)->e+1<=a.size->g+2<=b.size->e+g<na+nb->R (.done (none,e+1,g+2,d,i,j,l)) st/\R (.yield (none,e+1,g+2,d,i,j,l)) st):
  wpS M A E s (h3 a b out (na+1) (nb+2) mg k k1) R st:=by
 unfold h3
 dsimp only[add_sub_cancel,Nat.add_one_sub_one]
 refine au (b5 h ?_)
 have q:=pU md h m u
 by_cases p:na=0
 .rw[ai (by simpa using p)]
  exact aB (f _ _ (kh md q (.inl p)))
 .rw[aj (by simpa using p)]
  obtain⟨n,rfl⟩:=lH p
  have:=go _ _ _ mg k k1 q (by omega) t (by omega)
  split
  .exact aB this.1
  .exact aB this.2
theorem t7{out:Array Keyed}{na nb mg k T:Nat}{st:SortSt}{R:ForInStep fL->SortSt->Prop}(hk:kindOf st=C)(m:MG r a b out (na+1) (nb+2))(h:na<a.size)(u:nb+1<b.size)(v:∀x∈a.toList.take (na+1),Le r x (b.toList[nb+1]'u))
  (f:∀o c,Fin r a b o->R (.done (some o,c)) st)
  (go:∀p q t w z B,MG r a b p (q+1) (t+2)->q+1<=a.size->t+2<=b.size->q+t<na+nb->R (.done (none,q+1,t+2,p,w,z,B)) st/\R (.yield (none,q+1,t+2,p,w,z,B)) st):
  wpS M A E s (h2 a b out (na+1) (nb+2) mg k T) R st:=by
 have P:=md.ga _ (bM (l:=a.toList) (n:=na) h)
 unfold h2
 dsimp only[add_sub_cancel,Nat.add_one_sub_one]
 refine au (b5 u ?_)
 have G:=uh md u m v
 by_cases H:nb=0
 .subst H
  rw[ai (by simp)]
  exact aB (f _ _ (mF md G rfl))
 .rw[aj (by simpa using H)]
  refine au (b5 h ?_)
  have es:seg b 0 (nb+1)=b.toList.take (nb+1):=by unfold seg;rw[drop_zero]
  refine au (jq cp hk P (by omega) (by omega) (by rw[es];exact λx v=>md.gb x (cA v)) (by rw[es];exact md.sb.sublist (eZ _ _)) ?_)
  rw[es]
  intro at_ D t1 Q
  rw[take_take,i8 D] at t1
  rw[drop_take] at Q
  dsimp only
  have t3:∀y∈b.toList.take at_,Le r y (a.toList[na]'h):=λy F=>cp.as (md.gb y (cA F)) P (t1 y F)
  by_cases S:nb+1 - at_>0
  .rw[ai S]
   have I:=Bb md G D (λx v y F=>uf cp md (md.gb y (cF (cA F))) h (Q y F) x v)
   by_cases J:at_=1
   .rw[ai (by simpa using J)]
    exact aB (f _ _ (mF md I J))
   .rw[aj (by simpa using J)]
    by_cases K:at_=0
    .rw[ai (by simpa using K)]
     exact aB (f _ _ (kh md I (.inr K)))
    .rw[aj (by simpa using K)]
     obtain⟨n,rfl⟩:∃n,at_=n+2:=⟨at_ - 2,by omega⟩
     exact t8 cp md I h (by omega) t3 f (λo i j g c d L N O U=>go o i j g c d L N O (by omega))
  .rw[aj S]
   have e:at_=nb+1:=by omega
   subst e
   obtain⟨n,rfl⟩:=lH H
   exact t8 cp md G h (by omega) t3 f (λo i j g c d L N O U=>go o i j g c d L N O (by omega))
theorem t6{out:Array Keyed}{na nb mg ac K:Nat}{st:SortSt}{R:ForInStep fL->SortSt->Prop}(hk:kindOf st=C)(m:MG r a b out (na+1) (nb+2))(P:na+1<=a.size)(Q:nb+2<=b.size)
  (f:∀o c,Fin r a b o->R (.done (some o,c)) (aS st mg))
  (go:∀k p q t u v,MG r a b k (p+1) (q+2)->p+1<=a.size->q+2<=b.size->p+q<na+nb->R (.done (none,p+1,q+2,k,t,u,v)) (aS st mg)/\R (.yield (none,p+1,q+2,k,t,u,v)) (aS st mg)):
  wpS M A E s (h1 a b out (na+1) (nb+2) mg ac K) R st:=by
 have D:na<a.size:=by omega
 have h:nb+1<b.size:=by omega
 have G:=md.gb _ (bM (l:=b.toList) (n:=nb+1) h)
 unfold h1
 dsimp only[add_sub_cancel,Nat.add_one_sub_one]
 refine au (eF (au (b5 h ?_)))
 have es:seg a 0 (na+1)=a.toList.take (na+1):=by unfold seg;rw[drop_zero]
 refine au (jq cp hk G (by omega) (by omega) (by rw[es];exact λx w=>md.ga x (cA w)) (by rw[es];exact md.sa.sublist (eZ _ _)) ?_)
 rw[es]
 intro at_ z t1 H
 rw[take_take,i8 z] at t1
 rw[drop_take] at H
 dsimp only
 have t3:∀x∈a.toList.take at_,Le r x (b.toList[nb+1]'h):=λx w=>by have:=t1 x w;simpa using this
 by_cases I:na+1 - at_>0
 .rw[ai I]
  have J:=Ba md m z (λx w y F=>ug cp md (md.ga y (cF (cA F))) h (cp.as G (md.ga y (cF (cA F))) (by have:=H y F;simpa using this)) x w)
  by_cases B:at_=0
  .rw[ai (by simpa using B)]
   exact aB (f _ _ (kh md J (.inl B)))
  .rw[aj (by simpa using B)]
   obtain⟨n,rfl⟩:=lH B
   exact t7 cp md hk J (by omega) h t3 f (λo i j g c d L N O S=>go o i j g c d L N O (by omega))
 .rw[aj I]
  have e:at_=na+1:=by omega
  subst e
  exact t7 cp md hk m D h t3 f go
theorem A_{out:Array Keyed}{na nb mg ac z:Nat}{st:SortSt}{R:ForInStep fL->SortSt->Prop}(hk:kindOf st=C)(m:MG r a b out (na+1) (nb+2))(x:na+1<=a.size)(y:nb+2<=b.size)
  (f:∀o c g,Fin r a b o->R (.done (some o,c)) (aS st g))
  (go:∀e h k l n p g,MG r a b e (h+1) (k+2)->h+1<=a.size->k+2<=b.size->h+k<na+nb->R (.done (none,h+1,k+2,e,l,n,p)) (aS st g)/\R (.yield (none,h+1,k+2,e,l,n,p)) (aS st g)):
  wpS M A E s (mH a b (none,na+1,nb+2,out,mg,ac,z)) R st:=by
 unfold mH
 dsimp only
 split
 .exact t6 cp md hk m x y (λo c q=>f o c _ q) (λo i j g c d t u v w=>go o i j g c d _ t u v w)
 .exact t6 cp md hk m x y (λo c q=>f o c _ q) (λo i j g c d t u v w=>go o i j g c d _ t u v w)
theorem uq{out:Array Keyed}{na nb mg u v:Nat}{st:SortSt}{R:ForInStep i_->SortSt->Prop}(hk:kindOf st=C)(m:MG r a b out (na+1) (nb+2))(B:na+1<=a.size)(D:nb+2<=b.size)
  (f:∀o c g,Fin r a b o->R (.done (some o,c)) (aS st g))
  (go:∀h d e k g,MG r a b h (d+1) (e+2)->d+1<=a.size->e+2<=b.size->d+e<na+nb->R (.yield (none,d+1,e+2,h,k)) (aS st g)):
  wpS M A E s (mJ a b mg (none,na+1,nb+2,out,u,v)) R st:=by
 unfold mJ
 dsimp only
 refine au (jF ?_)
 refine au (di (I:=λx c l=>∃g,l=aS st g/\∃o i j q u v,c=(none,i+1,j+2,o,q,u,v)/\MG r a b o (i+1) (j+2)/\i+1<=a.size/\j+2<=b.size/\i+j+x<=na+nb) ?_ ?_ ⟨gallopOf st,rfl,out,na,nb,_,_,_,rfl,m,B,D,by omega⟩)
 .rintro x c l _ N ⟨g,rfl,o,i,j,q,u,v,rfl,n,p,t,F⟩
  refine A_ cp md hk n p t ?_ ?_
  .intro o' c g' G
   dsimp only
   exact aB (f _ _ _ G)
  .intro o' H J k K L g' w y z O
   refine⟨?_,⟨g',rfl,o',H,J,k,K,L,rfl,w,y,z,by omega⟩⟩
   dsimp only
   refine au (eF (aB ?_))
   exact go _ _ _ _ _ w y z (by omega)
 .rintro c l ⟨g,rfl,o,i,j,q,u,v,rfl,n,p,t,F⟩
  dsimp only
  refine au (eF (aB ?_))
  exact go _ _ _ _ _ n p t (by omega)
theorem Bc{out:Array Keyed}{na nb mg:Nat}{st:SortSt}{R:ForInStep i_->SortSt->Prop}(hk:kindOf st=C)(m:MG r a b out (na+1) (nb+2))(D:na+1<=a.size)(F:nb+2<=b.size)
  (f:∀o c g,Fin r a b o->R (.done (some o,c)) (aS st g))
  (go:∀h d e n g,MG r a b h (d+1) (e+2)->d+1<=a.size->e+2<=b.size->d+e<na+nb->R (.yield (none,d+1,e+2,h,n)) (aS st g)):
  wpS M A E s (hturn a b (none,na+1,nb+2,out,mg)) R st:=by
 unfold hturn
 dsimp only
 refine au (di (I:=λx c k=>∃g,k=aS st g/\∃o i j u v,c=(none,i+1,j+2,o,u,v)/\MG r a b o (i+1) (j+2)/\i+1<=a.size/\j+2<=b.size/\i+j+x<=na+nb) ?_ ?_ ⟨gallopOf st,rfl,out,na,nb,0,0,rfl,m,D,F,by omega⟩)
 .rintro x c k _ O ⟨g,rfl,o,i,j,u,v,rfl,p,q,t,G⟩
  refine A9 cp md hk p q t ?_ ?_
  .intro o' c l
   exact aB (f _ _ _ l)
  .intro o' H J K L y z B P
   refine⟨?_,⟨g,rfl,o',H,J,K,L,rfl,y,z,B,by omega⟩⟩
   exact uq cp md hk y z B (λo c g l=>f o c g l) (λo i j m g a1 a2 w N=>go o i j m g a1 a2 w (by omega))
 .rintro c k ⟨g,rfl,o,i,j,u,v,rfl,p,q,t,G⟩
  exact uq cp md hk p q t (λo c g l=>f o c g l) (λo i j m g a1 a2 w N=>go o i j m g a1 a2 w (by omega))
theorem Cf{st:SortSt}{Q:Array Keyed->SortSt->Prop}(hk:kindOf st=C)(na:0<a.size)(nb:0<b.size)(D:∀x∈b.toList,∀y∈a.toList.drop (a.size - 1),Le r x y)
  (h:∀out g,Fin r a b out->Q out (aS st g)):wpS M A E s (kP a b) Q st:=by
 rw[Ce];refine au (jF ?_);have hi:a.size - 1<a.size:=by omega
 refine au (b5 hi ?_);have m0:MG r a b #[a.toList[a.size - 1]'hi] (a.size - 1) b.size:=by
  have m:MG r a b #[] (a.size - 1+1) b.size:=⟨by rw[iW (by rw[bu];omega),iW (by rw[bu];omega)];exact Perm.nil,Pairwise.nil,λx e y f=>by simp at f,λx e y f=>by simp at f⟩;exact pU md hi m (λx e=>D x (cA e) _ (B_ hi))
 by_cases l:a.size - 1=0
 .rw[ai (by simpa using l)]
  exact aB (h _ (gallopOf st) (kh md m0 (.inl l)))
 .rw[aj (by simpa using l)]
  by_cases p:b.size=1
  .rw[ai (by simpa using p)]
   exact aB (h _ (gallopOf st) (mF md m0 p))
  .rw[aj (by simpa using p)]
   refine au (fX ?_);obtain⟨n,u⟩:∃n,a.size - 1=n+1:=⟨a.size - 2,by omega⟩;obtain⟨k,v⟩:∃k,b.size=k+2:=⟨b.size - 2,by omega⟩;refine au (di (I:=λx c d=>∃g,d=aS st g/\∃o i j q,c=(none,i+1,j+2,o,q)/\MG r a b o (i+1) (j+2)/\i+1<=a.size/\j+2<=b.size/\i+j+x<=n+k) ?_ ?_ ⟨gallopOf st,rfl,#[a.toList[a.size - 1]'hi],n,k,gallopOf st,by rw[<-u,<-v],by rw[<-u,<-v];exact m0,by omega,by omega,by omega⟩)
   .rintro x c d _ e ⟨g,rfl,o,i,j,q,rfl,w,z,B,F⟩
    refine Bc cp md hk w z B ?_ ?_
    .intro o' c g' G
     exact aB (h _ _ G)
    .intro o' H J t g' K L N O
     exact⟨g',rfl,o',H,J,t,rfl,K,L,N,by omega⟩
   .rintro c d ⟨g,rfl,o,i,j,q,rfl,w,z,B,F⟩
    exfalso;omega
end
def mergeAt':Nat->SM Bool:=sortPriv%PySem.Builtin.mergeAt
abbrev qH(st:SortSt)(p:Array (Nat×Nat×Nat)):SortSt:=SortSt.mk' (kindOf st) (arrOf st) p (gallopOf st) (failedOf st)
abbrev wr(arr:Array Keyed)(base:Nat)(out:Array Keyed):Array Keyed:=out.toList.zipIdx.foldl (λa (p,j)=>a.setIfInBounds (base+j) p) arr
theorem Ca(i:Nat):mergeAt' i=(do
 let s <-get
 let (some (sa,na,power),some (sb,nb,_)):=((pendingOf s)[i]?,(pendingOf s)[i+1]?)|unsupported "internal:list.sort.pending"
 set (qH s (((pendingOf s).setIfInBounds i (sa,na+nb,power)).eraseIdxIfInBounds (i+1)))
 let some k <-dH false (<-elem' (arrOf s) sb) (arrOf s) sa na 0|return false
 let (sa,na):=(sa+k,na - k)
 if na==0 then return true
 let some nb <-dH true (<-elem' (arrOf s) (sa+na - 1)) (arrOf s) sb nb (nb - 1)|return false
 if nb==0 then return true
 let x:=(arrOf s).extract sa sb
 let y:=(arrOf s).extract sb (sb+nb)
 let merged <-if na<=nb then kQ x y else kP x y
 modify λs=>setArr s (wr (arrOf s) sa merged)
 return (failedOf (<-get)).isNone):=rfl
def uT(arr:Array Keyed)(sa na sb nb:Nat):SM Bool:=do
 let merged <-if na<=nb then kQ (arr.extract sa sb) (arr.extract sb (sb+nb)) else kP (arr.extract sa sb) (arr.extract sb (sb+nb))
 modify λs=>setArr s (wr (arrOf s) sa merged)
 return (failedOf (<-get)).isNone
def qh(arr:Array Keyed)(sa na sb nb:Nat):SM Bool:=do
 let y <-elem' arr sb
 match <-dH false y arr sa na 0 with
 |some k=>
  if na - k==0 then pure true
  else do
   let x <-elem' arr (sa+k+(na - k) - 1)
   match <-dH true x arr sb nb (nb - 1) with
   |some uZ=>if uZ==0 then pure true else uT arr (sa+k) (na - k) sb uZ
   |_=>pure false
 |_=>pure false
theorem Cb{M:Model}{A:Around}{E:aA}{s:Shared}{i sa na b sb nb a:Nat}{st:SortSt}{Q:Bool->SortSt->Prop}(c:(pendingOf st)[i]?=some (sa,na,b))(d:(pendingOf st)[i+1]?=some (sb,nb,a))
  (h:wpS M A E s (qh (arrOf st) sa na sb nb) Q (qH st (((pendingOf st).setIfInBounds i (sa,na+nb,b)).eraseIdxIfInBounds (i+1)))):wpS M A E s (mergeAt' i) Q st:=by
 rw[Ca];refine au (fX ?_);rw[c,d];dsimp only;refine au ?_;show wpS M A E s (modify λ_=>_) _ _;refine eF ?_;exact h
theorem xD(base:Nat):∀(l:List Keyed) (n:Nat) (arr:Array Keyed),base+n+l.length<=arr.size->((l.zipIdx n).foldl (λa (p,j)=>a.setIfInBounds (base+j) p) arr).toList=arr.toList.take (base+n)++l++arr.toList.drop (base+n+l.length)
 |[],n,arr,h=>by
  simp only[List.zipIdx_nil,List.foldl_nil,e8,List.length_nil,add_zero];exact(cK _ _).symm
 |p::l,n,arr,h=>by
  rw[e_] at h;rw[List.zipIdx_cons,List.foldl_cons];have:=xD base l (n+1) (arr.setIfInBounds (base+n) p) (by rw[Array.size_setIfInBounds];omega);rw[this,Array.toList_setIfInBounds,List.set_eq_take_append_cons_drop,ai (by rw[bu];omega)];have b:(arr.toList.take (base+n)).length=base+n:=by rw[dZ,bu];omega
  have c:(arr.toList.take (base+n)++p::arr.toList.drop (base+n+1)).take (base+(n+1))=arr.toList.take (base+n)++[p]:=by
   rw[List.take_append,fG (by rw[b];omega),b,show base+(n+1) - (base+n)=1 by omega];rfl
  have d:(arr.toList.take (base+n)++p::arr.toList.drop (base+n+1)).drop (base+(n+1)+l.length)=arr.toList.drop (base+n+(l.length+1)):=by
   rw[List.drop_append,b,iW (by rw[b];omega),nil_append,show base+(n+1)+l.length - (base+n)=l.length+1 by omega,List.drop_succ_cons,jM];congr 1;omega
  rw[c,d,aW,aW,e_,aW];rfl
section
variable{M:Model}{A:Around}{E:aA}{s:Shared}{C:SortKind}{G:Keyed->Prop}{r:Keyed->Keyed->Bool}
theorem EO(cp:Cp M A E s C G r){X Y Z:List Keyed}{k n:Nat}{f g:Keyed}(o:∀x∈X,G x)(p:∀x∈Y,G x)(u:X.Pairwise (Le r))(v:Y.Pairwise (Le r))(b:G f)(i:G g)
  (c:∀y∈Y,Le r f y)(j:∀x∈X,Le r x g)(t1:∀x∈X.take k,Le r x f)(B:∀y∈Y.drop n,Le r g y)
  (q:Z.Perm (X.drop k++Y.take n))(sz:Z.Pairwise (Le r)):(X.take k++Z++Y.drop n).Perm (X++Y)/\(X.take k++Z++Y.drop n).Pairwise (Le r):=by
 refine⟨?_,?_⟩
 .have e:X++Y=X.take k++(X.drop k++Y.take n)++Y.drop n:=by
   rw[<-aW,cK,aW,cK]
  rw[e]
  exact fY _ (fH _ q)
 .have st:X.Pairwise (Le r):=u
  rw[<-cK k X,bS] at st
  have l:Y.Pairwise (Le r):=v
  rw[<-cK n Y,bS] at l
  have gt:∀x∈X.take k,G x:=λx hx=>o x (cA hx)
  have a:∀z∈Z,z∈X.drop k\/z∈Y.take n:=λz m=>aT.mp (q.mem_iff.mp m)
  refine bS.mpr ⟨bS.mpr ⟨st.1,sz,?_⟩,l.2.1,?_⟩
  .intro x hx z m
   rcases a z m with h|h
   .exact st.2.2 x hx z h
   .exact cp.tr (gt x hx) b (p z (cA h)) (t1 x hx) (c z (cA h))
  .intro x hx w d
   have t:=p w (cF d)
   rcases aT.mp hx with hx|hx
   .exact cp.tr (gt x hx) b t (t1 x hx) (c w (cF d))
   .rcases a x hx with h|h
    .exact cp.tr (o x (cF h)) i t (j x (cF h)) (B w d)
    .exact l.2.2 x h w d
end
section
variable{M:Model}{A:Around}{E:aA}{s:Shared}{C:SortKind}{G:Keyed->Prop}{r:Keyed->Keyed->Bool}
theorem Cp.rf(cp:Cp M A E s C G r){x:Keyed}(g:G x):Le r x x:=by
 show r x x=false;cases e:r x x with
 |false=>rfl
 |true=>rw[cp.as g g e] at e;cases e
theorem k8{arr:Array Keyed}{base n:Nat}(h:base+n<=arr.size):(seg arr base n).length=n:=by
 rw[dZ,dY,bu];omega
theorem seg_at{arr:Array Keyed}{base n i:Nat}(h:base+n<=arr.size)(hi:i<n)(h1:base+i<arr.size)(h2:i<(seg arr base n).length):arr.toList[base+i]'h1=(seg arr base n)[i]'h2:=by
 have:=jz (arr:=arr) (base:=base) hi;rw[bf h2,bf (by simpa using h1)] at this;exact(Option.some.inj this).symm
theorem wU{arr:Array Keyed}{base n k:Nat}:(seg arr base n).drop k=(arr.toList.drop (base+k)).take (n - k):=by
 unfold seg;rw[drop_take,jM]
theorem cut{arr:Array Keyed}{base n:Nat}:arr.toList.drop base=seg arr base n++arr.toList.drop (base+n):=ki _ _ _
theorem B7(cp:Cp M A E s C G r){sa na sb nb:Nat}{st:SortSt}{Q:Bool->SortSt->Prop}(hk:kindOf st=C)(V:failedOf st=none)(hs:sb=sa+na)(W:0<na)(X:0<nb)(F:sb+nb<=(arrOf st).size)
  (l:∀x∈seg (arrOf st) sa na,G x)(m:∀x∈seg (arrOf st) sb nb,G x)(p:(seg (arrOf st) sa na).Pairwise (Le r))(q:(seg (arrOf st) sb nb).Pairwise (Le r))
  (h:∀f g Z,f.toList=(arrOf st).toList.take sa++Z++(arrOf st).toList.drop (sb+nb)->Z.Perm (seg (arrOf st) sa na++seg (arrOf st) sb nb)->Z.Pairwise (Le r)->Q true (aS (setArr st f) g)):
  wpS M A E s (qh (arrOf st) sa na sb nb) Q st:=by
 subst hs
 have L:=k8 (arr:=arrOf st) (base:=sa) (n:=na) (by omega)
 have N:=k8 (arr:=arrOf st) (base:=sa+na) (n:=nb) F
 have same:(arrOf st).toList=(arrOf st).toList.take sa++(seg (arrOf st) sa na++seg (arrOf st) (sa+na) nb)++(arrOf st).toList.drop (sa+na+nb):=by
  rw[aW,aW,<-cut,<-cut,cK]
 have H:sa+na<(arrOf st).size:=by omega
 have j:0<(seg (arrOf st) (sa+na) nb).length:=by omega
 have O:sa+(na - 1)<(arrOf st).size:=by omega
 have u:na - 1<(seg (arrOf st) sa na).length:=by omega
 have Y:=seg_at (arr:=arrOf st) (base:=sa+na) (n:=nb) (i:=0) F X H j
 have ex:=seg_at (arr:=arrOf st) (base:=sa) (n:=na) (i:=na - 1) (by omega) (by omega) O u
 have c:G ((seg (arrOf st) (sa+na) nb)[0]'j):=m _ (bM _)
 have d:G ((seg (arrOf st) sa na)[na - 1]'u):=l _ (bM _)
 have v:∀y∈seg (arrOf st) (sa+na) nb,Le r ((seg (arrOf st) (sa+na) nb)[0]'j) y:=λy b=>by
  obtain⟨i,hi,rfl⟩:=f6 b
  rcases Nat.eq_zero_or_pos i with h'|h'
  .subst h';exact cp.rf c
  .exact gC.mp q 0 i j hi h'
 have w:∀x∈seg (arrOf st) sa na,Le r x ((seg (arrOf st) sa na)[na - 1]'u):=λx a=>by
  obtain⟨i,hi,rfl⟩:=f6 a
  rcases d7 i (na - 1) with h'|h'
  .exact gC.mp p i (na - 1) hi u h'
  .have:i=na - 1:=by omega
   subst this
   exact cp.rf d
 have e:(seg (arrOf st) sa na++seg (arrOf st) (sa+na) nb).Pairwise (Le r)->Q true st:=λhp=>h (arrOf st) (gallopOf st) _ same (Perm.refl _) hp
 unfold qh
 refine au (b5 H ?_)
 rw[show(arrOf st).toList[sa+na]'H=(seg (arrOf st) (sa+na) nb)[0]'j from Y]
 refine au (jq cp hk c (by omega) W l p ?_)
 intro k I t1 t2
 dsimp only
 have o:∀x∈(seg (arrOf st) sa na).take k,Le r x ((seg (arrOf st) (sa+na) nb)[0]'j):=λx a=>by have:=t1 x a;simpa using this
 by_cases P:na - k=0
 .rw[ai (by simpa using P)]
  refine aB (e (bS.mpr ⟨p,q,λx a y b=> ?_⟩))
  have:(seg (arrOf st) sa na).take k=seg (arrOf st) sa na:=fG (by omega)
  rw[this] at o
  exact cp.tr (l x a) c (m y b) (o x a) (v y b)
 .rw[aj (by simpa using P)]
  have el:sa+k+(na - k) - 1=sa+(na - 1):=by omega
  rw[el]
  refine au (b5 O ?_)
  rw[ex]
  refine au (jq cp hk d F (by omega) m q ?_)
  intro n hn u1 R
  dsimp only
  by_cases J:n=0
  .rw[ai (by simpa using J)]
   subst J
   refine aB (e (bS.mpr ⟨p,q,λx a y b=> ?_⟩))
   exact cp.tr (l x a) d (m y b) (w x a) (R y b)
  .rw[aj (by simpa using J)]
   have eX:((arrOf st).extract (sa+k) (sa+na)).toList=(seg (arrOf st) sa na).drop k:=by
    rw[pP,wU];unfold mid;congr 1;omega
   have t:((arrOf st).extract (sa+na) (sa+na+n)).toList=(seg (arrOf st) (sa+na) nb).take n:=by
    rw[pO];unfold seg;rw[take_take,i8 hn]
   have K:((arrOf st).extract (sa+k) (sa+na)).size=na - k:=by
    rw[<-bu,eX,dY,L]
   have S:((arrOf st).extract (sa+na) (sa+na+n)).size=n:=by
    rw[<-bu,t,dZ,N];omega
   have ga:∀x∈((arrOf st).extract (sa+k) (sa+na)).toList,G x:=by rw[eX];exact λx a=>l x (cF a)
   have gb:∀x∈((arrOf st).extract (sa+na) (sa+na+n)).toList,G x:=by rw[t];exact λx a=>m x (cA a)
   have z:((arrOf st).extract (sa+k) (sa+na)).toList.Pairwise (Le r):=by rw[eX];exact p.sublist (fK _ _)
   have B:((arrOf st).extract (sa+na) (sa+na+n)).toList.Pairwise (Le r):=by rw[t];exact q.sublist (eZ _ _)
   have la:∀x∈((arrOf st).extract (sa+na) (sa+na+n)).toList,∀y∈((arrOf st).extract (sa+k) (sa+na)).toList.drop (((arrOf st).extract (sa+k) (sa+na)).size - 1),Le r x y:=by
    rw[eX,t,K,jM,show k+(na - k - 1)=na - 1 by omega,lK u,iW (by omega)]
    intro x a y b
    rw[bF.mp b]
    exact cp.as (m x (cA a)) d (u1 x a)
   have fb:∀x∈((arrOf st).extract (sa+na) (sa+na+n)).toList.take 1,∀y∈((arrOf st).extract (sa+k) (sa+na)).toList,Le r x y:=by
    rw[eX,t,take_take,i8 (by omega),List.take_one,List.head?_eq_getElem?,bf j]
    intro x a y b
    have a:x=(seg (arrOf st) (sa+na) nb)[0]'j:=by simpa using a
    rw[a]
    exact cp.as c (l y (cF b)) (by have:=t2 y b;simpa using this)
   have rest:∀out g,Fin r ((arrOf st).extract (sa+k) (sa+na)) ((arrOf st).extract (sa+na) (sa+na+n)) out->wpS M A E s (do
     modify λs=>setArr s (wr (arrOf s) (sa+k) out)
     return (failedOf (<-get)).isNone) Q (aS st g):=λout g T=>by
    refine au (eF (au (fX (aB ?_))))
    have D:out.toList.Perm ((seg (arrOf st) sa na).drop k++(seg (arrOf st) (sa+na) nb).take n):=by
     have:=T.1;rw[eX,t] at this;exact this
    have lo:out.toList.length=na - k+n:=by
     have a1:((seg (arrOf st) sa na).drop k).length=na - k:=by rw[dY,L]
     have a2:((seg (arrOf st) (sa+na) nb).take n).length=n:=by rw[dZ,N];omega
     rw[D.length_eq,bV,a1,a2]
    have U:=EO cp l m p q c d v w o (λy b=>R y b) D T.2
    have fin:(failedOf (setArr (aS st g) (wr (arrOf (aS st g)) (sa+k) out))).isNone=true:=by
     show(failedOf st).isNone=true
     rw[V];rfl
    rw[fin]
    refine h (wr (arrOf st) (sa+k) out) g ((seg (arrOf st) sa na).take k++out.toList++(seg (arrOf st) (sa+na) nb).drop n) ?_ U.1 U.2
    have:=xD (sa+k) out.toList 0 (arrOf st) (by rw[lo];omega)
    rw[show wr (arrOf st) (sa+k) out=_ from rfl,this,add_zero,lo,take_add,show sa+k+(na - k+n)=sa+na+n by omega]
    have e3:(arrOf st).toList.drop (sa+na+n)=(seg (arrOf st) (sa+na) nb).drop n++(arrOf st).toList.drop (sa+na+nb):=by
     have:=cut (arr:=arrOf st) (base:=sa+na+n) (n:=nb - n)
     rw[show sa+na+n+(nb - n)=sa+na+nb by omega] at this
     rw[wU];exact this
    have e4:((arrOf st).toList.drop sa).take k=(seg (arrOf st) sa na).take k:=by
     unfold seg;rw[take_take,i8 I]
    rw[e3,e4]
    simp only[aW]
   unfold uT
   dsimp only
   split
   .refine au ?_
    exact Cj cp ⟨ga,gb,z,B,la⟩ hk (by rw[K];omega) (by rw[S];omega) fb rest
   .refine au ?_
    exact Cf cp ⟨ga,gb,z,B,fb⟩ hk (by rw[K];omega) (by rw[S];omega) la rest
end
section
variable{M:Model}{A:Around}{E:aA}{s:Shared}{C:SortKind}{G:Keyed->Prop}{O:KeyOrd}{key:Keyed->O.α}
abbrev byKey(O:KeyOrd)(key:Keyed->O.α)(x y:Keyed):Bool:=O.blt (key x) (key y)
def kk(O:KeyOrd)(key:Keyed->O.α)(arr:Array Keyed)(i:Nat):O.α:=key (arr[i]?.getD (Value.none,Value.none))
theorem iM{x y:Array Keyed}{i j:Nat}(h:x[i]?=y[j]?):kk O key x i=kk O key y j:=by unfold kk;rw[h]
structure Wk(a0 arr:Array Keyed)(lo:Nat):Prop where
 pm:arr.Perm a0
 fx:∀t,t<lo->arr[t]? =a0[t]?
theorem Wk.size{a0 arr:Array Keyed}{lo:Nat}(w:Wk a0 arr lo):arr.size=a0.size:=w.pm.size_eq
theorem Wk.m6{a0 arr:Array Keyed}{lo i j:Nat}(w:Wk a0 arr lo)(hi:lo<=i)(a:j<=a0.size):Wk a0 (mirror arr i j ((j - i)/2)) lo:=
 ⟨(mirror_perm _ _ _ _).trans w.pm,λt b=>by rw[getElem?_mirror_all (by rw[w.size];exact a),aj (by omega)];exact w.fx t b⟩
theorem Wk.yi{a0 arr:Array Keyed}{lo src d:Nat}(w:Wk a0 arr lo)(hs:src<a0.size)(hd:lo+d<=src):Wk a0 (bubble arr src d) lo:=
 ⟨(bubble_perm _ _ _).trans w.pm,λt a=>by rw[getElem?_bubble (by rw[w.size];exact hs) d (by omega),aj (by omega),aj (by omega)];exact w.fx t a⟩
abbrev bP(O:KeyOrd)(key:Keyed->O.α)(arr:Array Keyed)(lo n:Nat):Prop:=∀i j,i<=j->j<n->O.kle (kk O key arr (lo+i)) (kk O key arr (lo+j))
abbrev i9(O:KeyOrd)(key:Keyed->O.α)(arr:Array Keyed)(lo n:Nat):Prop:=∀i j,i<=j->j<n->O.kle (kk O key arr (lo+j)) (kk O key arr (lo+i))
theorem kM(cp:Cp M A E s C G (byKey O key)){a0 arr:Array Keyed}{lo i j:Nat}{st:SortSt}{Q:Option Bool->SortSt->Prop}(hk:kindOf st=C)(d:arrOf st=arr)(g:∀x∈a0.toList,G x)(w:Wk a0 arr lo)(hi:i<a0.size)(f:j<a0.size)
  (h:Q (some (O.blt (kk O key arr i) (kk O key arr j))) st):wpS M A E s (ltAt' i j) Q st:=by
 subst d;have a:i<(arrOf st).size:=by rw[w.size];exact hi
 have b:j<(arrOf st).size:=by rw[w.size];exact f
 have c:∀x∈(arrOf st).toList,G x:=λx l=>g x ((g6.mp w.pm).mem_iff.mp l);rw[ltAt'_eq];refine au (fX (au (b5 a (au (b5 b (cp.lt (c _ (bM _)) (c _ (bM _)) hk ?_))))));have e:∀{k:Nat} (hk:k<(arrOf st).size),kk O key (arrOf st) k=key ((arrOf st).toList[k]'hk):=λ {k} hk=>by
  unfold kk;rw[cu hk];rfl
 rw[e a,e b] at h;exact h
theorem yh(cp:Cp M A E s C G (byKey O key)){a0 arr:Array Keyed}{lo n ok:Nat}{st:SortSt}{Q:Bool->SortSt->Prop}(hk:kindOf st=C)(g:∀x∈a0.toList,G x)(hn:lo+n<=a0.size)(hok:ok<=n)(D:Wk a0 arr lo)(hs:bP O key arr lo ok)
  (h:∀d,Wk a0 d lo->bP O key d lo n->Q true (setArr st d)):wpS M A E s (binarySort' lo n ok) Q (setArr st arr):=by
 rw[binarySort'_eq];refine au (di (I:=λk c b=>c=(none,())/\∃a,b=setArr st a/\Wk a0 a lo/\bP O key a lo (min k n)) ?_ ?_ ⟨rfl,arr,rfl,D,?_⟩)
 .rintro k c b h1 h2 ⟨rfl,a,rfl,w,asc⟩
  rw[i8 (by omega)] at asc;have ins:∀l,l<=k->(∀i,i<l->O.kle (kk O key a (lo+i)) (kk O key a (lo+k)))->(∀i,l<=i->i<k->O.klt (kk O key a (lo+k)) (kk O key a (lo+i)))->∀R:ForInStep (Option Bool×Unit)->SortSt->Prop,
    (∀f,Wk a0 f lo->bP O key f lo (min (k+1) n)->R (ForInStep.yield (none,())) (setArr st f))->wpS M A E s (do moveDown' (lo+k) (lo+l);pure (ForInStep.yield ((none:Option Bool),()))) R (setArr st a):=λl o p F R H=>by
   rw[moveDown'_eq];refine au (eF (aB (H _ (w.yi (by omega) (by omega)) ?_)));rw[i8 (by omega),show lo+k - (lo+l)=k - l by omega];have val:∀i,i<k+1->kk O key (bubble a (lo+k) (k - l)) (lo+i)=if i=l then kk O key a (lo+k) else if l<i then kk O key a (lo+(i - 1)) else kk O key a (lo+i):=λi hi=>by
    have e:=getElem?_bubble (xs:=a) (src:=lo+k) (by rw[w.size];omega) (k - l) (by omega) (lo+i);by_cases v:i=l
    .rw[ai (by omega)] at e;rw[ai v];exact iM e
    .rw[aj (by omega)] at e;rw[aj v]
     by_cases y:l<i
     .rw[ai (by omega)] at e;rw[ai y]
      rw[show lo+i - 1=lo+(i - 1) by omega] at e;exact iM e
     .rw[aj (by omega)] at e;rw[aj y];exact iM e
   intro i j m z;show O.kle (kk O key (bubble a (lo+k) (k - l)) (lo+i)) (kk O key (bubble a (lo+k) (k - l)) (lo+j));rw[val i (by omega),val j z];repeat' split
   .exact fF _
   .exact n5 (F _ (by omega) (by omega))
   .omega
   .omega
   .exact asc _ _ (by omega) (by omega)
   .omega
   .exact p _ (by omega)
   .exact asc _ _ (by omega) (by omega)
   .exact asc _ _ (by omega) (by omega)
  refine au (di (I:=λx c b=>b=setArr st a/\∃l u,c=(none,l,u)/\l<=u/\u<=k/\u - l+x<=k/\
    (∀i,i<l->O.kle (kk O key a (lo+i)) (kk O key a (lo+k)))/\∀i,u<=i->i<k->O.klt (kk O key a (lo+k)) (kk O key a (lo+i))) ?_ ?_ ⟨rfl,0,k,rfl,by omega,by omega,by omega,λi hi=>by omega,λi o p=>by omega⟩)
  case _=>
   rintro x c b _ L ⟨rfl,l,u,rfl,J,t,K,q,r⟩;dsimp only;by_cases B:l≥u
   .rw[ai B]
    obtain rfl:l=u:=by omega
    refine aB ?_;exact ins l t q r _ λf p1 p2=>⟨rfl,f,rfl,p1,p2⟩
   .rw[aj B]
    refine au (kM cp hk rfl g w (by omega) (by omega) ?_);dsimp only;cases e:O.blt (kk O key a (lo+k)) (kk O key a (lo+(l+u)/2)) with
    |true=>exact aB ⟨rfl,l,(l+u)/2,rfl,by omega,by omega,by omega,q,λi o p=>KeyOrd.klt_of_klt_of_kle e (asc _ _ o p)⟩
    |false=>exact aB ⟨rfl,(l+u)/2+1,u,rfl,by omega,by omega,by omega,λi o=>lA (asc i _ (by omega) (by omega)) e,r⟩
  case _=>
   rintro c b ⟨rfl,l,u,rfl,J,t,K,q,r⟩;obtain rfl:l=u:=by omega
   exact ins l t q r _ λf p1 p2=>⟨rfl,f,rfl,p1,p2⟩
 .rintro c b ⟨rfl,a,rfl,w,asc⟩
  rw[show min (max (max ok 1) n) n=n by omega] at asc;exact aB (h a w asc)
 .intro i j m z
  by_cases N:ok=0
  .obtain rfl:i=j:=by omega
   exact fF _
  .exact hs i j m (by omega)
end
def jd(lo a nrem:Nat):SM (Option (Option Nat)×Nat):=forIn [a:nrem] ((none,a):Option (Option Nat)×Nat) λ_ c=>do
 match <-ltAt' (lo+c.2) (lo+c.2 - 1) with
 |some w=>if w then pure (.done (none,c.2)) else pure (.yield (none,c.2+1))
 |_=>pure (.done (some none,c.2))
def jf(lo n nrem:Nat):SM (Option Nat):=do
 reverseSlice' lo (lo+n)
 let c <-jd lo n nrem
 match c.1 with
 |some r=>pure r
 |none=>pure (some c.2)
def l7(lo n nrem:Nat):SM (Option (Option Nat)×Nat×Nat):=forIn [n:nrem] ((none,n,0):Option (Option Nat)×Nat×Nat) λ_ c=>do
 match <-ltAt' (lo+c.2.1) (lo+c.2.1 - 1) with
 |some w=>
  if w then
   if c.2.2>0 then do
    reverseSlice' (lo+c.2.1 - (c.2.2+1)) (lo+c.2.1)
    pure (.yield (none,c.2.1+1,0))
   else pure (.yield (none,c.2.1+1,0))
  else do
   match <-ltAt' (lo+c.2.1 - 1) (lo+c.2.1) with
   |some v=>if v then pure (.done (none,c.2.1,c.2.2)) else pure (.yield (none,c.2.1+1,c.2.2+1))
   |_=>pure (.done (some none,c.2.1,c.2.2))
 |_=>pure (.done (some none,c.2.1,c.2.2))
def j6(lo n nrem:Nat):SM (Option Nat):=do
 rule "list.sort.descending-run"
 let c <-l7 lo (n+1) nrem
 match c.1 with
 |some r=>pure r
 |none=>
  if c.2.2>0 then do
   reverseSlice' (lo+c.2.1 - (c.2.2+1)) (lo+c.2.1)
   jf lo c.2.1 nrem
  else jf lo c.2.1 nrem
theorem yH(lo nrem:Nat):countRun' lo nrem=(do
 let c <-jd lo 1 nrem
 match c.1 with
 |some r=>pure r
 |none=>
  if c.2==nrem then pure (some c.2)
  else if c.2>1 then do
   match <-ltAt' lo (lo+c.2 - 1) with
   |some v=>if v then pure (some c.2) else do
    reverseSlice' lo (lo+c.2)
    j6 lo c.2 nrem
   |_=>pure none
  else j6 lo c.2 nrem):=by
 rw[countRun'_eq]
 have tl:∀n:Nat,jf lo n nrem=(do
   reverseSlice' lo (lo+n)
   let c <-jd lo n nrem
   match c.1 with
   |some r=>pure r
   |none=>pure (some c.2)):=λn=>rfl
 dsimp only[j6,jf,l7,jd]
 congr 1;funext c
 obtain⟨f,n⟩:=c
 cases f with
 |some q=>rfl
 |none=>
  dsimp only
  split
  .rfl
  .split
   .congr 1;funext o
    cases o with
    |none=>rfl
    |some v=>
     dsimp only
     split
     .rfl
     .congr 1;funext _;congr 1;funext _;congr 1;funext d
      obtain⟨b,m,q⟩:=d
      cases b with
      |some z=>rfl
      |none=>
       dsimp only
       split
       .congr 1;funext _;congr 1;funext _;congr 1;funext e
        obtain⟨a,k⟩:=e
        cases a<;>rfl
       .congr 1;funext _;congr 1;funext e
        obtain⟨a,k⟩:=e
        cases a<;>rfl
   .congr 1;funext _;congr 1;funext d
    obtain⟨b,m,q⟩:=d
    cases b with
    |some z=>rfl
    |none=>
     dsimp only
     split
     .congr 1;funext _;congr 1;funext _;congr 1;funext e
      obtain⟨a,k⟩:=e
      cases a<;>rfl
     .congr 1;funext _;congr 1;funext e
      obtain⟨a,k⟩:=e
      cases a<;>rfl
section
variable{M:Model}{A:Around}{E:aA}{s:Shared}{C:SortKind}{G:Keyed->Prop}{O:KeyOrd}{key:Keyed->O.α}
theorem p6{arr:Array Keyed}{i j:Nat}(a:j<=arr.size)(t:Nat):kk O key (mirror arr i j ((j - i)/2)) t=if i<=t/\t<j then kk O key arr (i+j - 1 - t) else kk O key arr t:=by
 have e:=getElem?_mirror_all (xs:=arr) (i:=i) a t;split at e
 .rename_i c;rw[ai c];exact iM e
 .rename_i c;rw[aj c];exact iM e
theorem kE{arr:Array Keyed}{i j:Nat}{v:O.α}(a:j<=arr.size)(h:∀t,i<=t->t<j->kk O key arr t=v)(t:Nat):kk O key (mirror arr i j ((j - i)/2)) t=kk O key arr t:=by
 rw[p6 a];split
 .rw[h _ (by omega) (by omega),h t (by omega) (by omega)]
 .rfl
theorem nX{st:SortSt}{arr:Array Keyed}{i j:Nat}{Q:Unit->SortSt->Prop}(h:Q () (setArr st (mirror arr i j ((j - i)/2)))):wpS M A E s (reverseSlice' i j) Q (setArr st arr):=by
 rw[reverseSlice'_eq];exact eF h
variable(cp:Cp M A E s C G (byKey O key)){a0:Array Keyed}{lo nrem:Nat}{st:SortSt}(hk:kindOf st=C)(g:∀x∈a0.toList,G x)(hn:lo+nrem<=a0.size)
include cp hk g hn
theorem r8{arr:Array Keyed}{a:Nat}{Q:Option (Option Nat)×Nat->SortSt->Prop}(w:Wk a0 arr lo)(h1:1<=a)(h2:a<=nrem)(hs:bP O key arr lo a)
  (h:∀n,a<=n->n<=nrem->bP O key arr lo n->(n=nrem\/O.klt (kk O key arr (lo+n)) (kk O key arr (lo+(n - 1))))->Q (none,n) (setArr st arr)):wpS M A E s (jd lo a nrem) Q (setArr st arr):=by
 unfold jd;refine di (I:=λx c b=>b=setArr st arr/\c=(none,x)/\bP O key arr lo x) ?_ ?_ ⟨rfl,rfl,hs⟩
 .rintro x c b f k ⟨rfl,rfl,asc⟩
  dsimp only;rw[show lo+x - 1=lo+(x - 1) by omega];refine au (kM cp hk rfl g w (by omega) (by omega) ?_);dsimp only;cases e:O.blt (kk O key arr (lo+x)) (kk O key arr (lo+(x - 1))) with
  |true=>exact aB (h x f (by omega) asc (.inr e))
  |false=>
   refine aB ⟨rfl,rfl,λi j d l=>?_⟩;rcases d7 j x with c|c
   .exact asc i j d c
   .obtain rfl:j=x:=by omega
    rcases d7 i j with c'|c'
    .exact lA (asc i (j - 1) (by omega) (by omega)) e
    .obtain rfl:i=j:=by omega
     exact fF _
 .rintro c b ⟨rfl,rfl,asc⟩
  rw[Nat.max_eq_right h2] at asc ⊢;exact h nrem h2 (aC _) asc (.inl rfl)
theorem xg{arr:Array Keyed}{n:Nat}{Q:Option Nat->SortSt->Prop}(w:Wk a0 arr lo)(h1:1<=n)(h2:n<=nrem)(hs:i9 O key arr lo n)
  (h:∀m a,Wk a0 a lo->1<=m->m<=nrem->bP O key a lo m->Q (some m) (setArr st a)):wpS M A E s (jf lo n nrem) Q (setArr st arr):=by
 unfold jf;refine au (nX ?_);have b:Wk a0 (mirror arr lo (lo+n) ((lo+n - lo)/2)) lo:=w.m6 (aC _) (by omega);refine au (r8 cp hk g hn b h1 h2 ?_ λm e c asc _=>aB (h m _ b (by omega) c asc));intro i j d f;rw[p6 (by rw[w.size];omega),p6 (by rw[w.size];omega),ai (by omega),ai (by omega),show lo+(lo+n) - 1 - (lo+i)=lo+(n - 1 - i) by omega,show lo+(lo+n) - 1 - (lo+j)=lo+(n - 1 - j) by omega];exact hs _ _ (by omega) (by omega)
theorem zF{arr:Array Keyed}{n:Nat}{Q:Option (Option Nat)×Nat×Nat->SortSt->Prop}(w:Wk a0 arr lo)(h1:1<=n)(h2:n<=nrem)(hs:i9 O key arr lo n)
  (h:∀m q a,Wk a0 a lo->n<=m->m<=nrem->i9 O key a lo m->q+1<=m->(∀t,lo+m - (q+1)<=t->t<lo+m->kk O key a t=kk O key a (lo+(m - 1)))->Q (none,m,q) (setArr st a)):wpS M A E s (l7 lo n nrem) Q (setArr st arr):=by
 unfold l7;refine di (I:=λx c d=>∃q a,d=setArr st a/\c=(none,x,q)/\Wk a0 a lo/\i9 O key a lo x/\q+1<=x/\∀t,lo+x - (q+1)<=t->t<lo+x->kk O key a t=kk O key a (lo+(x - 1))) ?_ ?_ ⟨0,arr,rfl,rfl,w,hs,by omega,λt t1 o=>by congr 1;omega⟩
 .rintro x c d v C ⟨q,a,rfl,rfl,w,b,l,k⟩
  dsimp only;rw[show lo+x - 1=lo+(x - 1) by omega];have y:lo+x<=a.size:=by rw[w.size];omega
  refine au (kM cp hk rfl g w (by omega) (by omega) ?_);dsimp only;cases e:O.blt (kk O key a (lo+x)) (kk O key a (lo+(x - 1))) with
  |true=>
   rw[ai rfl];have more:∀p:Array Keyed,(∀t,kk O key p t=kk O key a t)->i9 O key p lo (x+1):=λp r i j f z=>by
    rw[r,r];rcases d7 j x with c|c
    .exact b i j f c
    .obtain rfl:j=x:=by omega
     rcases d7 i j with c'|c'
     .exact lA (n5 e) (b i (j - 1) (by omega) (by omega))
     .obtain rfl:i=j:=by omega
      exact fF _
   by_cases u:q>0
   .rw[ai u]
    exact au (nX (aB ⟨0,_,rfl,rfl,w.m6 (by omega) (by omega),more _ (kE y k),by omega,λt t1 o=>by congr 1;omega⟩))
   .rw[aj u]
    exact aB ⟨0,_,rfl,rfl,w,more _ (λ_=>rfl),by omega,λt t1 o=>by congr 1;omega⟩
  |false=>
   rw[aj (by simp)];refine au (kM cp hk rfl g w (by omega) (by omega) ?_);dsimp only;cases B:O.blt (kk O key a (lo+(x - 1))) (kk O key a (lo+x)) with
   |true=>exact aB (h x q a w v (by omega) b l k)
   |false=>
    have eq:kk O key a (lo+x)=kk O key a (lo+(x - 1)):=KeyOrd.kle_antisymm B e;refine aB ⟨q+1,a,rfl,rfl,w,λi j f z=>?_,by omega,λt t1 o=>?_⟩
    .rcases d7 j x with c|c
     .exact b i j f c
     .obtain rfl:j=x:=by omega
      rcases d7 i j with c'|c'
      .rw[eq];exact b i (j - 1) (by omega) (by omega)
      .obtain rfl:i=j:=by omega
       exact fF _
    .rw[add_sub_cancel,eq]
     rcases d7 t (lo+x) with c|c
     .exact k t (by omega) c
     .obtain rfl:t=lo+x:=by omega
      exact eq
 .rintro c d ⟨q,a,rfl,rfl,w,b,l,k⟩
  rw[Nat.max_eq_right h2] at b l k ⊢;exact h nrem q a w h2 (aC _) b l k
theorem vp{arr:Array Keyed}{n:Nat}{Q:Option Nat->SortSt->Prop}(w:Wk a0 arr lo)(h2:n+1<=nrem)(hs:i9 O key arr lo (n+1))
  (h:∀m a,Wk a0 a lo->1<=m->m<=nrem->bP O key a lo m->Q (some m) (setArr st a)):wpS M A E s (j6 lo n nrem) Q (setArr st arr):=by
 unfold j6;refine au (jF ?_);refine au (zF cp hk g hn w (by omega) h2 hs λm q a c o e b p f=>?_);dsimp only;by_cases k:q>0
 .rw[ai k]
  refine au (nX (xg cp hk g hn (c.m6 (by omega) (by omega)) (by omega) e ?_ h));intro i j d l;rw[kE (by rw[c.size];omega) f,kE (by rw[c.size];omega) f];exact b i j d l
 .rw[aj k]
  exact xg cp hk g hn c (by omega) e b h
theorem yI{arr:Array Keyed}{Q:Option Nat->SortSt->Prop}(w:Wk a0 arr lo)(h1:1<=nrem)
  (h:∀m a,Wk a0 a lo->1<=m->m<=nrem->bP O key a lo m->Q (some m) (setArr st a)):wpS M A E s (countRun' lo nrem) Q (setArr st arr):=by
 rw[yH];have one:bP O key arr lo 1:=λi j d k=>by
  obtain rfl:i=j:=by omega
  exact fF _
 refine au (r8 cp hk g hn w (aC _) h1 one λn l o asc or=>?_);dsimp only;by_cases f:n=nrem
 .rw[ai (by simpa using f)]
  exact aB (h n arr w l o asc)
 .rw[aj (by simpa using f)]
  have b:=or.resolve_left f;by_cases p:n>1
  .rw[ai p,show lo+n - 1=lo+(n - 1) by omega]
   refine au (kM cp hk rfl g w (by omega) (by omega) ?_);dsimp only;cases e:O.blt (kk O key arr lo) (kk O key arr (lo+(n - 1))) with
   |true=>exact aB (h n arr w l o asc)
   |false=>
    rw[aj (by simp)];have flat:∀t,lo<=t->t<lo+n->kk O key arr t=kk O key arr (lo+(n - 1)):=λt t1 r=>by
     have a1:=asc 0 (t - lo) (by omega) (by omega);have a2:=asc (t - lo) (n - 1) (by omega) (by omega);rw[show lo+(t - lo)=t by omega] at a1 a2;exact KeyOrd.kle_antisymm a2 (lA e a1)
    have q:lo+n<=arr.size:=by rw[w.size];omega
    refine au (nX (vp cp hk g hn (w.m6 (aC _) (by omega)) (by omega) ?_ h));intro i j d k;rw[kE q flat,kE q flat];rcases d7 j n with c|c
    .rw[flat _ (by omega) (by omega),flat (lo+i) (by omega) (by omega)];exact fF _
    .obtain rfl:j=n:=by omega
     rcases d7 i j with c'|c'
     .rw[flat (lo+i) (by omega) (by omega)];exact n5 b
     .obtain rfl:i=j:=by omega
      exact fF _
  .rw[aj p]
   obtain rfl:n=1:=by omega
   refine vp cp hk g hn w (by omega) ?_ h;intro i j d k;rcases d7 i j with c'|c'
   .obtain rfl:i=0:=by omega
    obtain rfl:j=1:=by omega
    exact n5 b
   .obtain rfl:i=j:=by omega
    exact fF _
end
abbrev Ru:=Nat×Nat×Nat
def nL(size pw:Nat):SM (Option Unit×Unit):=forIn [0:size] ((none,()):Option Unit×Unit) λ_ c=>do
 let st <-get
 match (if (pendingOf st).size>1 then (pendingOf st)[(pendingOf st).size - 2]? else none) with
 |some (_,_,older)=>
  if older<=pw then pure (.done (none,()))
  else do
   let b <-PyProof.Rows.mergeAt' ((pendingOf st).size - 2)
   if !b then pure (.done (some (),())) else pure (.yield (none,()))
 |_=>pure (.done (none,()))
def k7(size lo n:Nat):SM (ForInStep (Option Unit×Nat)):=do
 let st <-get
 match (pendingOf st).back? with
 |some (s1,n1,_)=>do
  let c <-nL size (power' size (2*s1+n1) (2*s1+n1+n1+n) size)
  match c.1 with
  |some r=>pure (.done (some r,lo))
  |none=>do
   modify λs=>setPending s ((pendingOf s).modify ((pendingOf s).size - 1) λ(st,len,_)=>(st,len,power' size (2*s1+n1) (2*s1+n1+n1+n) size))
   modify λs=>setPending s ((pendingOf s).push (lo,n,0))
   pure (.yield (none,lo+n))
 |_=>do
  modify λs=>setPending s ((pendingOf s).push (lo,n,0))
  pure (.yield (none,lo+n))
def nM(size qk lo:Nat):SM (ForInStep (Option Unit×Nat)):=
 if lo≥size then pure (.done (none,lo))
 else do
  match <-countRun' lo (size - lo) with
  |some found=>
   if found<qk then do
    rule "list.sort.binary-insertion"
    let b <-binarySort' lo (min (size - lo) qk) found
    if !b then pure (.done (some (),lo)) else k7 size lo (min (size - lo) qk)
   else k7 size lo found
  |_=>pure (.done (some (),lo))
def pick(p:Array Ru):Nat:=if (if p.size - 2>0 then p[p.size - 2 - 1]?.map (·.2.1) else none).any (·<(p[p.size - 2+1]?.elim 0 (·.2.1))) then p.size - 2 - 1 else p.size - 2
def k6(size:Nat):SM (Option Unit×Unit):=forIn [0:size] ((none,()):Option Unit×Unit) λ_ c=>do
 let st <-get
 if (pendingOf st).size<=1 then pure (.done (none,()))
 else do
  let b <-PyProof.Rows.mergeAt' (pick (pendingOf st))
  if !b then pure (.done (some (),())) else pure (.yield (none,()))
theorem E2:sortRuns'=(do
 let st <-get
 let c <-forIn [0:(arrOf st).size] ((none,0):Option Unit×Nat) λ_ c=>nM (arrOf st).size (minRun' (arrOf st).size (arrOf st).size 0) c.2
 match c.1 with
 |some r=>pure r
 |none=>do
  let d <-k6 (arrOf st).size
  match d.1 with
  |some r=>pure r
  |none=>pure ()):=by
 rw[sortRuns'_eq]
 dsimp only[k6,nM,k7,nL,pick]
 congr 1;funext st
 congr 1
 .congr 1;funext x c
  obtain⟨f,lo⟩:=c
  dsimp only
  split
  .rfl
  .congr 1;funext o
   cases o with
   |none=>rfl
   |some found=>
    dsimp only
    split
    .congr 1;funext _;congr 1;funext b
     cases b with
     |false=>rfl
     |true=>
      congr 1;congr 1;funext a
      cases (pendingOf a).back? with
      |none=>rfl
      |some q=>
       dsimp only
       congr 1;funext d
       obtain⟨e,g⟩:=d
       cases e<;>rfl
    .congr 1;funext a
     cases (pendingOf a).back? with
     |none=>rfl
     |some q=>
      dsimp only
      congr 1;funext d
      obtain⟨e,g⟩:=d
      cases e<;>rfl
 .funext c
  obtain⟨f,lo⟩:=c
  cases f with
  |some r=>rfl
  |none=>
   dsimp only
   congr 1;funext d
   obtain⟨e,g⟩:=d
   cases e<;>rfl
def ez:List Ru->Nat->Nat->Prop
 |[],f,t=>f=t
 |q::rest,f,t=>q.1=f/\0<q.2.1/\ez rest (f+q.2.1) t
theorem nK:∀{p q:List Ru} {f t:Nat},ez (p++q) f t↔∃m,ez p f m/\ez q m t
 |[],q,f,t=>⟨λh=>⟨f,rfl,h⟩,λ⟨m,e,h⟩=>by cases e;exact h⟩
 |x::p,q,f,t=>by
  show(x.1=f/\0<x.2.1/\ez (p++q) (f+x.2.1) t)↔_;rw[nK];exact⟨λ⟨a,b,m,c,d⟩=>⟨m,⟨a,b,c⟩,d⟩,λ⟨m,⟨a,b,c⟩,d⟩=>⟨a,b,m,c,d⟩⟩
theorem kZ:∀{p:List Ru} {f t:Nat},ez p f t->f+p.length<=t/\∀q∈p,f<=q.1/\q.1+q.2.1<=t
 |[],f,t,h=>by cases (show f=t from h);exact⟨aC _,λq hq=>by simp at hq⟩
 |x::p,f,t,h=>by
  obtain⟨a,b,c⟩:=h;obtain⟨d,e⟩:=kZ c;refine⟨by rw[e_];omega,λq hq=>?_⟩;rcases aR.mp hq with rfl|hq
  .constructor<;>omega
  .have:=e q hq;constructor<;>omega
section
variable{M:Model}{A:Around}{E:aA}{s:Shared}{C:SortKind}{G:Keyed->Prop}{O:KeyOrd}{key:Keyed->O.α}
theorem mQ{arr:Array Keyed}{lo n i:Nat}(h:lo+n<=arr.size)(hi:i<n)(h2:i<(seg arr lo n).length):kk O key arr (lo+i)=key ((seg arr lo n)[i]'h2):=by
 have h1:lo+i<arr.size:=by omega
 unfold kk;rw[cu h1,<-seg_at h hi h1 h2];rfl
theorem lX{arr:Array Keyed}{lo n:Nat}(h:lo+n<=arr.size):bP O key arr lo n↔(seg arr lo n).Pairwise (Le (byKey O key)):=by
 have e:=k8 h;refine⟨λa=>gC.mpr λi j hi b d=>?_,λp i j d b=>?_⟩
 .have:=a i j (by omega) (by omega)
  rw[mQ h (by omega) hi,mQ h (by omega) b] at this;exact this
 .rcases d7 i j with c|c
  .have:=gC.mp p i j (by omega) (by omega) c
   rw[mQ h (by omega) (by omega),mQ h b (by omega)];exact this
  .obtain rfl:i=j:=by omega
   exact fF _
theorem lW{arr b:Array Keyed}{lo n:Nat}(h:∀t,lo<=t->t<lo+n->b[t]?=arr[t]?)(a:bP O key arr lo n):bP O key b lo n:=λi j c d=>by
 rw[iM (h (lo+i) (by omega) (by omega)),iM (h (lo+j) (by omega) (by omega))];exact a i j c d
structure PI(O:KeyOrd)(key:Keyed->O.α)(C:SortKind)(a0:Array Keyed)(st:SortSt)(lo:Nat):Prop where
 pm:(arrOf st).Perm a0
 fl:failedOf st=none
 kd:kindOf st=C
 le:lo<=a0.size
 ru:ez (pendingOf st).toList 0 lo
 so:∀q∈(pendingOf st).toList,bP O key (arrOf st) q.1 q.2.1
theorem two{p:List Ru}{i:Nat}(h:i+1<p.length):∃pre x y post,p=pre++x::y::post/\pre.length=i:=by
 refine⟨p.take i,p[i],p[i+1],p.drop (i+2),?_,by rw[dZ];omega⟩;rw[<-lK (by omega),<-lK (by omega),cK]
theorem joined(cp:Cp M A E s C G (byKey O key)){a0:Array Keyed}{st:SortSt}{lo i:Nat}{Q:Bool->SortSt->Prop}(g:∀x∈a0.toList,G x)(pi:PI O key C a0 st lo)(hi:i+1<(pendingOf st).size)
  (h:∀b,PI O key C a0 b lo->(pendingOf b).size+1=(pendingOf st).size->(∀t,lo<=t->(arrOf b)[t]?=(arrOf st)[t]?)->Q true b):wpS M A E s (PyProof.Rows.mergeAt' i) Q st:=by
 show wpS M A E s (TS.mergeAt' i) Q st;obtain⟨pre,⟨sa,na,c⟩,⟨sb,nb,d⟩,post,e,k⟩:=two (p:=(pendingOf st).toList) (i:=i) (by simpa using hi);have ru:=pi.ru;rw[e,nK] at ru;obtain⟨m,z,B,D,F,H,o⟩:=ru;dsimp only at B D F H o;subst B F;have in1:=kZ z;have f:=kZ o;have r:sa+na+nb<=(arrOf st).size:=by rw[pi.pm.size_eq];have:=pi.le;omega
 have K:(pendingOf st)[i]?=some (sa,na,c):=by
  rw[<-dj,e,ir (by omega),k,sub_self];rfl
 have L:(pendingOf st)[i+1]?=some (sa+na,nb,d):=by
  rw[<-dj,e,ir (by omega),k,om];rfl
 have np:(((pendingOf st).setIfInBounds i (sa,na+nb,c)).eraseIdxIfInBounds (i+1)).toList=pre++(sa,na+nb,c)::post:=by
  rw[Array.toList_eraseIdxIfInBounds,Array.toList_setIfInBounds,e,List.set_append_right _ _ (by omega),k,sub_self,List.set_cons_zero,List.eraseIdx_append_of_length_le (by omega),k,om];rfl
 have N:∀x∈(arrOf st).toList,G x:=λx u=>g x ((g6.mp pi.pm).mem_iff.mp u);have gs:∀(l n:Nat),∀x∈seg (arrOf st) l n,G x:=λl n x u=>N x (cF (cA u));have v:sa+na<=(arrOf st).size:=by omega
 have P:=(lX v).mp (pi.so (sa,na,c) (by rw[e];simp));have R:=(lX r).mp (pi.so (sa+na,nb,d) (by rw[e];simp));refine Cb K L ?_;refine(B7 cp (st:=qH st (((pendingOf st).setIfInBounds i (sa,na+nb,c)).eraseIdxIfInBounds (i+1))) pi.kd pi.fl rfl D H r (gs _ _) (gs _ _) P R ?_);intro a gl Z j I sz;have j:a.toList=(arrOf st).toList.take sa++Z++(arrOf st).toList.drop (sa+na+nb):=j;have same:(arrOf st).toList=(arrOf st).toList.take sa++(seg (arrOf st) sa na++seg (arrOf st) (sa+na) nb)++(arrOf st).toList.drop (sa+na+nb):=by
  rw[aW,aW,<-cut,<-cut,cK]
 have pm:a.Perm (arrOf st):=by
  refine g6.mpr ?_;rw[j];refine Perm.trans ?_ (Perm.of_eq same.symm);exact fY _ (fH _ I)
 have J:Z.length=na+nb:=by
  rw[I.length_eq,bV,k8 (by omega),k8 r]
 have lt:((arrOf st).toList.take sa).length=sa:=by rw[dZ,bu];omega
 have out:∀t,(t<sa\/sa+na+nb<=t)->a[t]?=(arrOf st)[t]? :=λt ht=>by
  rw[<-dj,<-dj,j];rcases ht with ht|ht
  .rw[aW,e9 (by omega),List.getElem?_take,ai ht]
  .rw[ir (by rw[bV];omega),List.getElem?_drop,bV,lt,J]
   congr 1;omega
 have w:seg a sa (na+nb)=Z:=by
  unfold seg;rw[j,aW,List.drop_append,iW (by omega),lt,sub_self,drop_zero,nil_append,List.take_append,fG (by omega),J,sub_self,List.take_zero,e8]
 refine h _ ⟨pm.trans pi.pm,pi.fl,pi.kd,pi.le,?_,?_⟩ ?_ ?_
 .show ez (((pendingOf st).setIfInBounds i (sa,na+nb,c)).eraseIdxIfInBounds (i+1)).toList 0 lo
  rw[np];exact nK.mpr ⟨sa,z,rfl,by show 0<na+nb;omega,by show ez post (sa+(na+nb)) lo;rw[<-Nat.add_assoc];exact o⟩
 .show ∀q∈(((pendingOf st).setIfInBounds i (sa,na+nb,c)).eraseIdxIfInBounds (i+1)).toList,bP O key a q.1 q.2.1
  rw[np];intro q hq;rcases aT.mp hq with hq|hq
  .have:=in1.2 q hq
   exact lW (λt t1 S=>out t (.inl (by omega))) (pi.so q (by rw[e];exact i6 _ hq))
  .rcases aR.mp hq with rfl|hq
   .have y:sa+(na+nb)<=a.size:=by rw[pm.size_eq];omega
    exact(lX y).mpr (by rw[w];exact sz)
   .have:=f.2 q hq
    exact lW (λt t1 S=>out t (.inr (by omega))) (pi.so q (by rw[e];simp[hq]))
 .show(((pendingOf st).setIfInBounds i (sa,na+nb,c)).eraseIdxIfInBounds (i+1)).size+1=_
  rw[<-bu,np,<-bu (xs:=pendingOf st),e];simp only[bV,e_];omega
 .intro t ht
  exact out t (.inr (by have:=f.1;omega))
end
abbrev re(pw:Nat):Ru->Ru:=λ(a,b,_)=>(a,b,pw)
theorem vY{a:Nat}:∀{p:List Ru} {i f t:Nat},ez p f t->ez (p.modify i (re a)) f t
 |[],i,f,t,h=>by rw[List.modify_nil];exact h
 |x::p,0,f,t,h=>h
 |x::p,i+1,f,t,h=>⟨h.1,h.2.1,vY h.2.2⟩
theorem uV{b:Nat}:∀{p:List Ru} {i:Nat} {q:Ru},q∈p.modify i (re b)->∃a∈p,a.1=q.1/\a.2.1=q.2.1
 |[],i,q,h=>by rw[List.modify_nil] at h;cases h
 |x::p,0,q,h=>by
  rcases aR.mp (show q∈re b x::p from h) with rfl|h
  .exact⟨x,cP,rfl,rfl⟩
  .exact⟨q,cz _ h,rfl,rfl⟩
 |x::p,i+1,q,h=>by
  rcases aR.mp (show q∈x::p.modify i (re b) from h) with rfl|h
  .exact⟨q,cP,rfl,rfl⟩
  .obtain⟨a,h1,h2⟩:=uV h
   exact⟨a,cz _ h1,h2⟩
section
variable{M:Model}{A:Around}{E:aA}{s:Shared}{C:SortKind}{G:Keyed->Prop}{O:KeyOrd}{key:Keyed->O.α}
variable(cp:Cp M A E s C G (byKey O key)){a0:Array Keyed}(g:∀x∈a0.toList,G x)
theorem PI.push{st:SortSt}{lo n:Nat}(pi:PI O key C a0 st lo)(hn:0<n)(a:lo+n<=a0.size)(as:bP O key (arrOf st) lo n):PI O key C a0 (setPending st ((pendingOf st).push (lo,n,0))) (lo+n):=by
 have e:((pendingOf st).push (lo,n,0)).toList=(pendingOf st).toList++[(lo,n,0)]:=jJ;refine⟨pi.pm,pi.fl,pi.kd,a,?_,?_⟩
 .show ez ((pendingOf st).push (lo,n,0)).toList 0 (lo+n)
  rw[e];exact nK.mpr ⟨lo,pi.ru,rfl,hn,rfl⟩
 .show ∀q∈((pendingOf st).push (lo,n,0)).toList,bP O key (arrOf st) q.1 q.2.1
  rw[e];intro q hq;rcases aT.mp hq with hq|hq
  .exact pi.so q hq
  .rw[bF.mp hq];exact as
theorem PI.re{st:SortSt}{lo i a:Nat}(pi:PI O key C a0 st lo):PI O key C a0 (setPending st ((pendingOf st).modify i (re a))) lo:=by
 have e:((pendingOf st).modify i (TS.re a)).toList=(pendingOf st).toList.modify i (TS.re a):=Array.toList_modify;refine⟨pi.pm,pi.fl,pi.kd,pi.le,?_,?_⟩
 .show ez ((pendingOf st).modify i (TS.re a)).toList 0 lo
  rw[e];exact vY pi.ru
 .show ∀q∈((pendingOf st).modify i (TS.re a)).toList,bP O key (arrOf st) q.1 q.2.1
  rw[e];intro q hq;obtain⟨b,h1,h2,h3⟩:=uV hq;rw[<-h2,<-h3];exact pi.so b h1
theorem PI.arr{st:SortSt}{lo:Nat}{a:Array Keyed}(pi:PI O key C a0 st lo)(w:Wk (arrOf st) a lo):PI O key C a0 (setArr st a) lo:=by
 refine⟨w.pm.trans pi.pm,pi.fl,pi.kd,pi.le,pi.ru,λq hq=>?_⟩;have:=(kZ pi.ru).2 q hq;exact lW (λt t1 b=>w.fx t (by omega)) (pi.so q hq)
include cp g
theorem Er{st:SortSt}{lo n size i:Nat}{Q:Option Unit×Unit->SortSt->Prop}(pi:PI O key C a0 st lo)(as:bP O key (arrOf st) lo n)
  (h:∀a,PI O key C a0 a lo->bP O key (arrOf a) lo n->Q (none,()) a):wpS M A E s (nL size i) Q st:=by
 unfold nL;refine di (I:=λx c a=>c=(none,())/\PI O key C a0 a lo/\bP O key (arrOf a) lo n) ?_ ?_ ⟨rfl,pi,as⟩
 .rintro x c a _ _ ⟨rfl,b,d⟩
  refine au (fX ?_);by_cases f:(pendingOf a).size>1
  .rw[ai f]
   cases e:(pendingOf a)[(pendingOf a).size - 2]? with
   |none=>exact aB (h a b d)
   |some q=>
    dsimp only;split
    .exact aB (h a b d)
    .refine au (joined cp g b (by omega) λj p2 _ f2=>?_)
     exact aB ⟨rfl,p2,lW (λt t1 _=>f2 t t1) d⟩
  .rw[aj f]
   exact aB (h a b d)
 .rintro c a ⟨rfl,b,d⟩
  exact h a b d
theorem v9{st:SortSt}{lo n size:Nat}{R:ForInStep (Option Unit×Nat)->SortSt->Prop}(pi:PI O key C a0 st lo)(as:bP O key (arrOf st) lo n)(hn:0<n)(d:lo+n<=a0.size)
  (h:∀a,PI O key C a0 a (lo+n)->R (.yield (none,lo+n)) a):wpS M A E s (k7 size lo n) R st:=by
 unfold k7;refine au (fX ?_);cases e:(pendingOf st).back? with
 |none=>exact au (eF (aB (h _ (pi.push hn d as))))
 |some q=>
  dsimp only;refine au (Er cp g pi as λa b c=>?_);dsimp only;exact au (eF (au (eF (aB (h _ ((PI.re b).push hn d c))))))
theorem Ey{st:SortSt}{lo b:Nat}{R:ForInStep (Option Unit×Nat)->SortSt->Prop}(pi:PI O key C a0 st lo)
  (h1:lo=a0.size->R (.done (none,lo)) st)(h2:∀n c,0<n->PI O key C a0 c (lo+n)->R (.yield (none,lo+n)) c):wpS M A E s (nM a0.size b lo) R st:=by
 unfold nM;have l:=pi.le;have e:∀x∈(arrOf st).toList,G x:=λx j=>g x ((g6.mp pi.pm).mem_iff.mp j);have f:(arrOf st).size=a0.size:=pi.pm.size_eq;by_cases h:lo≥a0.size
 .rw[ai h]
  exact aB (h1 (by omega))
 .rw[aj h]
  refine au (yI cp (st:=st) (arr:=arrOf st) pi.kd e (by rw[f];omega) ⟨Array.Perm.refl _,λ_ _=>rfl⟩ (by omega) λm a w o p as=>?_);dsimp only;by_cases i:m<b
  .rw[ai i]
   refine au (jF ?_);refine au (yh cp pi.kd e (by rw[f];omega) (by omega) w as λr k d=>?_);exact v9 cp g (pi.arr k) d (by omega) (by omega) λc q=>h2 _ c (by omega) q
  .rw[aj i]
   exact v9 cp g (pi.arr w) as (by omega) (by omega) λc q=>h2 _ c (by omega) q
theorem Ek{st:SortSt}{Q:Option Unit×Unit->SortSt->Prop}(pi:PI O key C a0 st a0.size)
  (h:∀a,PI O key C a0 a a0.size->(pendingOf a).size<=1->Q (none,()) a):wpS M A E s (k6 a0.size) Q st:=by
 unfold k6;refine di (I:=λx c a=>c=(none,())/\PI O key C a0 a a0.size/\((pendingOf a).size<=1\/(pendingOf a).size+x<=a0.size)) ?_ ?_ ⟨rfl,pi,.inr ?_⟩
 .rintro x c a _ _ ⟨rfl,d,o⟩
  refine au (fX ?_);by_cases e:(pendingOf a).size<=1
  .rw[ai e]
   exact aB (h a d e)
  .rw[aj e]
   have f:pick (pendingOf a)+1<(pendingOf a).size:=by
    have two:∀(b:Bool) (n:Nat),1<n->(if b=true then n - 2 - 1 else n - 2)+1<n:=λb n hn=>by
     cases b
     .rw[aj (by simp)];omega
     .rw[ai rfl];omega
    exact two _ _ (by omega)
   refine au (joined cp g d f λi p2 j _=>?_);exact aB ⟨rfl,p2,.inr (by omega)⟩
 .rintro c a ⟨rfl,d,o⟩
  exact h a d (by omega)
 .have:=(kZ pi.ru).1
  rw[bu] at this;omega
theorem E3{st:SortSt}{Q:Unit->SortSt->Prop}(hk:kindOf st=C)(t:failedOf st=none)(l:pendingOf st= #[])(m:arrOf st=a0)
  (h:∀a,(arrOf a).Perm a0->failedOf a=none->bP O key (arrOf a) 0 a0.size->Q () a):wpS M A E s sortRuns' Q st:=by
 have u:PI O key C a0 st 0:=⟨by rw[m],t,hk,ck _,by rw[l];rfl,λq hq=>by rw[l] at hq;cases hq⟩
 rw[E2]
 refine au (fX ?_)
 rw[m]
 have last:∀a,PI O key C a0 a a0.size->wpS M A E s (do
   let d <-k6 a0.size
   match d.1 with
   |some r=>pure r
   |none=>pure ()) Q a:=λa b=>by
  refine au (Ek cp g b λf p2 o=> ?_)
  refine aB (h f p2.pm p2.fl ?_)
  have ru:=p2.ru
  have so:=p2.so
  rw[<-bu] at o
  match e:(pendingOf f).toList,o with
  |[],_=>
   rw[e] at ru
   have:0=a0.size:=ru
   intro i j _ w
   omega
  |[q],_=>
   rw[e] at ru so
   obtain⟨v,_,p⟩:=ru
   have p:0+q.2.1=a0.size:=p
   have:=so q (bF.mpr rfl)
   rw[v,show q.2.1=a0.size by omega] at this
   exact this
  |_::_::_,z=>simp at z
 refine au (di (I:=λx c a=>∃lo,c=(none,lo)/\PI O key C a0 a lo/\x<=lo) ?_ ?_ ⟨0,rfl,u,aC _⟩)
 .rintro x c a _ y ⟨lo,rfl,b,k⟩
  refine Ey cp g b (λe=> ?_) (λn f hn p2=>⟨lo+n,rfl,p2,by omega⟩)
  subst e
  exact last a b
 .rintro c a ⟨lo,rfl,b,k⟩
  have:=b.le
  obtain rfl:lo=a0.size:=by omega
  exact last a b
end
open PySem.W PySem.Spec
section
variable{prog:Program}{w:World}{A:Around}{E:aA}{s:Shared}
theorem q9{vs:List Value}{x:Keyed}(h:x∈(vs.toArray.zip vs.toArray).toList):x.1∈vs/\x.2=x.1:=by
 rw[Array.toList_zip] at h;obtain⟨i,hi,rfl⟩:=f6 h;rw[List.getElem_zip];exact⟨bM _,rfl⟩
theorem q_(vs:List Value):(vs.toArray.zip vs.toArray).toList.map (·.2)=vs:=by
 rw[Array.toList_zip];exact List.map_snd_zip (aC _)
theorem B3{κ:SortKind}{O:KeyOrd}{key:Value->O.α}{a:Addr}{vs:List Value}{n:Nat}{P:PySem.Fin->Shared->Prop}(r:s.heap.get? a=some (seqObj "list" vs.toArray n))(D:vs.length<=sizeLine)
  (hk:∀s':Shared,(∀b o,b≠a->s.heap.get? b=some o->s'.heap.get? b=some o)->2<=vs.length->∀R:SortKind->Shared->Prop,R κ s'->wpAny (model prog w) A (keyKind' vs.toArray) R (λ_ _=>False) s')
  (hc:∀s':Shared,(∀b o,b≠a->s.heap.get? b=some o->s'.heap.get? b=some o)->∀x∈vs,∀y∈vs,∀(R:Bool->Shared->Prop) (E:aA),R (O.blt (key x) (key y)) s'->wpAny (model prog w) A (keyLt' κ x y) R E s')
  (h:∀ys:List Value,ys.Perm vs->ys.Pairwise (λx y=>O.kle (key x) (key y))->P (.done (.ret .none)) {s with heap:=sortedHeap s.heap a vs ys.toArray}):
  wpAny (model prog w) A (Builtin.«list.sort» ⟨[.ref a],[]⟩) P E s:=by
 rw[list_sort_plain]
 have F:a<s.heap.objs.size:=aP r
 refine aa (listItems_at r rfl ?_)
 refine aa (listUpdate_at r rfl ?_ (by rw[bT];exact D) (ck _))
 obtain⟨g,k⟩:∃g,(s.heap.update a (Obj.mapSeq λ_=>(#[]:Array Value))).get? a=some (seqObj "list" #[] g):=⟨_,get?_update_seq r λ_=> #[]⟩
 refine aa (seqEpoch_at k rfl ?_)
 refine aa (wpAny_newTuple ?_ (by show vs.length<=_;exact D))
 refine aa (wpAny_newList ?_ (ck _))
 refine fV ?_
 have d:(((s.heap.update a (Obj.mapSeq λ_=>(#[]:Array Value))).push (seqObj "tuple" vs.toArray 0)).push (seqObj "list" #[] 0)).get? a=some (seqObj "list" #[] g):=by
  rw[Heap.get?_push_ne _ _ _ (by rw[size_push',Heap.size_update];exact bz (fc F)),Heap.get?_push_ne _ _ _ (by rw[Heap.size_update];exact bz F)]
  exact k
 have kp:∀b o,b≠a->s.heap.get? b=some o->(((s.heap.update a (Obj.mapSeq λ_=>(#[]:Array Value))).push (seqObj "tuple" vs.toArray 0)).push (seqObj "list" #[] 0)).get? b=some o:=λb o K q=>
  a_ _ (a_ _ (by rw[Heap.get?_update_ne _ _ _ _ K];exact q))
 show wpAny (model prog w) A _ P E {s with heap:=((s.heap.update a (Obj.mapSeq λ_=>(#[]:Array Value))).push (seqObj "tuple" vs.toArray 0)).push (seqObj "list" #[] 0)}
 dsimp only
 have L:(vs.toArray.zip vs.toArray).toList.length=vs.length:=by
  have:=cV List.length (q_ vs)
  rwa [bA] at this
 by_cases h2:vs.toArray.size<2
 .rw[ai h2,ai h2]
  refine aa (ao ?_)
  rw[StateT.run_pure]
  refine aa (ao ?_)
  dsimp only
  have G:vs.length<2:=by simpa using h2
  have e:=h vs (Perm.refl _) (gC.mpr λi j hi Z M=>by omega)
  have u:(arrOf (SortSt.mk' general' (vs.toArray.zip vs.toArray) #[] 7 none)).map (·.2)=vs.toArray:=by
   apply Array.toList_inj.mp
   rw[Array.toList_map]
   exact q_ vs
  rw[u]
  refine aa (seqEpoch_at d rfl ?_)
  refine aa (listUpdate_at d rfl ?_ (ck _) (by rw[bT];omega))
  simp only[ic,bU,bH]
  exact ao e
 .rw[aj h2,aj h2]
  have G:2<=vs.length:=by
   have:vs.toArray.size=vs.length:=by simp
   omega
  obtain⟨f,v⟩:∃f:Shared,f={s with heap:=((s.heap.update a (Obj.mapSeq λ_=>(#[]:Array Value))).push (seqObj "tuple" vs.toArray 0)).push (seqObj "list" #[] 0)}:=⟨_,rfl⟩
  have l:∀b o,b≠a->s.heap.get? b=some o->f.heap.get? b=some o:=by rw[v];exact kp
  rw[<-v]
  refine aa (jK (hk f l G (λm s'=>m=κ/\s'=f) ⟨rfl,rfl⟩) ?_ λ_ _ x=>x.elim)
  rintro m s' ⟨N,es⟩
  rw[N,es]
  have cp:Cp (model prog w) A E f κ (λx:Keyed=>x.1∈vs/\x.2=x.1) (byKey O λx=>key x.1):=by
   refine⟨λ {x y st Q} S T hk q=> ?_,λ {x y} _ _ e=>KeyOrd.klt_asymm e,λ {x y z} _ _ _ g U=>lA g U⟩
   rw[lt'_eq]
   refine au (fX ?_)
   rw[hk]
   refine au (wpS_lift (lB (hc f l x.1 S.1 y.1 T.1 _ _ ⟨rfl,?_⟩)))
   exact aB q
  refine aa (jK (E3 cp (a0:=vs.toArray.zip vs.toArray) (st:=SortSt.mk' κ (vs.toArray.zip vs.toArray) #[] 7 none) (λx B=>q9 B) rfl rfl rfl rfl
   (Q:=λ_ c=>(arrOf c).Perm (vs.toArray.zip vs.toArray)/\failedOf c=none/\bP O (λx=>key x.1) (arrOf c) 0 (vs.toArray.zip vs.toArray).size) λc p V t=>⟨p,V,t⟩) ?_ λ_ _ e=>e)
  rintro ⟨⟨⟩,c⟩ W ⟨C,p,H,t⟩
  dsimp only at p H t ⊢
  rw[C]
  have pm:=g6.mp p
  have I:(arrOf c).size=(vs.toArray.zip vs.toArray).size:=p.size_eq
  have X:seg (arrOf c) 0 (vs.toArray.zip vs.toArray).size=(arrOf c).toList:=by
   unfold seg
   rw[drop_zero,<-I]
   exact fG (by rw[bu];exact aC _)
  have J:=(lX (by rw[I,zero_add];exact aC _)).mp t
  rw[X] at J
  have py:((arrOf c).toList.map (·.2)).Perm vs:=by
   have:=pm.map (·.2)
   rwa [q_] at this
  have so:((arrOf c).toList.map (·.2)).Pairwise (λx y=>O.kle (key x) (key y)):=by
   rw[jG]
   refine J.imp_of_mem λ {x y} B Y e=> ?_
   rw[(q9 (pm.mem_iff.mp B)).2,(q9 (pm.mem_iff.mp Y)).2]
   exact e
  have u:(arrOf c).map (·.2)=((arrOf c).toList.map (·.2)).toArray:=by
   apply Array.toList_inj.mp
   rw[Array.toList_map]
  rw[u]
  subst v
  refine aa (seqEpoch_at d rfl ?_)
  refine aa (listUpdate_at d rfl ?_ (ck _) (by rw[bT,py.length_eq];omega))
  rw[H]
  simp only[ic,bU,bH]
  exact ao (h _ py so)
end
open KO
theorem DH{α β:Type}{f:α->β}:∀{l k:List β},l.Perm k->∀{m:List α},k=m.map f->∃c:List α,c.Perm m/\l=c.map f:=by
 intro l k h;induction h with
 |nil=>
  intro m e;exact⟨[],by rw[List.map_eq_nil_iff.mp e.symm],rfl⟩
 |cons a _ n=>
  intro m e;cases m with
  |nil=>cases e
  |cons b m=>
   obtain⟨d,g⟩:=List.cons.inj (show _=f b::m.map f from e);obtain⟨c,h1,h2⟩:=n g;exact⟨b::c,h1.cons b,by rw[f7,<-d,h2]⟩
 |swap a b l=>
  intro m e;match m,e with
  |x::y::m,e=>
   obtain⟨d,g⟩:=List.cons.inj (show _=f x::f y::m.map f from e);obtain⟨o,p⟩:=List.cons.inj g;exact⟨y::x::m,Perm.swap x y m,by rw[f7,f7,<-d,<-o,p]⟩
 |trans _ _ i j=>
  intro m e;obtain⟨s,h1,h2⟩:=j e;obtain⟨q,h3,r⟩:=i h2;exact⟨q,h3.trans h1,r⟩
theorem Eg(vs:List Value)(d:Value):vs=(range vs.length).map λi=>vs.getD i d:=by
 refine ext_getElem (by rw[bA,length_range]) λi h1 h2=>?_;rw[List.getElem_map,List.getElem_range,b8,bf h1];rfl
end TS
namespace SM
open PySem PySem.W PySem.Spec PyProof.Rows
mutual
def kq:PyData->Bool
 |.int _|.str _=>true
 |.tuple ds=>gW ds
 |.none|.bool _|.list _|.dict _=>false
def gW:List PyData->Bool
 |[]=>true
 |d::r=>kq d&&gW r
end
mutual
def hq(w:World):PyData->Int
 |.int i=>hashInt i
 |.str x=>hashStr w x
 |.tuple ds=>reduceHash (Builtin.Tuple.tupleHashOf (kB w ds))
 |.none|.bool _|.list _|.dict _=>0
def kB(w:World):List PyData->List Int
 |[]=>[]
 |d::r=>hq w d::kB w r
end
section
variable{prog:Program}{w:World}{E:aA}
mutual
theorem vE:∀(d:PyData) (v:Value) (as:List Addr) (A:Around) (s:Shared) (Q:Int->Shared->Prop),kq d=true->Reads s.heap v d as->A.units+d.depth<cLine->(∀tk,s.toks<=tk->Q (hq w d) {s with toks:=tk})->wpAny (model prog w) A (pyHash v) Q E s
 |.int i,_,_,A,s,Q,_,r,_,h=>by cases r;exact wpAny_pyHash_int (h _ (le_succ _))
 |.str x,_,_,A,s,Q,_,r,_,h=>by cases r;exact wpAny_pyHash_str (h _ (le_succ _))
 |.tuple xs,_,_,A,s,Q,hk,r,c,h=>by
  cases r with
  | @tuple a o vs n _ e h1 h2 h3 f=>
   refine pyHash_slot (T:="tuple") ⟨_,h1,h2⟩ F.slot_tuple_hash F.entry_tuple_hash (F.args_tuple_hash_1 _) (beq_builtin_none _) (.inr (by omega)) ?_;show wpAny _ _ (Builtin.Tuple.tupleItemsOf (.ref a)>>=_) _ _ s;refine aa (wpAny_tupleItemsOf h1 h3 ?_);refine aa ?_;rw[<-forIn_toList];refine ua xs vs.toList _ A.in1 s #[] _ hk f (by simp only[PyData.depth,Around.in1_units] at c ⊢;omega) λtk b g j=>?_;show wpAny _ _ (retInt (Builtin.Tuple.tupleHashOf b.toList)) _ _ _;rw[j];exact aa (wpAny_mkInt (ao ⟨_,_,rfl,h _ (cO g (le_succ _))⟩))
 |.none,_,_,_,_,_,hk,_,_,_|.bool _,_,_,_,_,_,hk,_,_,_|.list _,_,_,_,_,_,hk,_,_,_|.dict _,_,_,_,_,_,hk,_,_,_=>by simp[kq] at hk
theorem ua:∀(xs:List PyData) (vs:List Value) (as:List Addr) (A:Around) (s:Shared) (b:Array Int) (Q:Array Int->Shared->Prop),gW xs=true->ReadsAll s.heap vs xs as->A.units+depthAll xs<cLine->
  (∀tk a,s.toks<=tk->a.toList=b.toList++kB w xs->Q a {s with toks:=tk})->
  wpAny (model prog w) A (forIn vs b λx r=>do let h <-pyHash x;pure PUnit.unit;pure (ForInStep.yield (r.push h))) Q E s
 |[],_,_,A,s,b,Q,_,x,_,h=>by cases x;exact ao (h s.toks b (aC _) (by simp[kB]))
 |k::xs,_,_,A,s,b,Q,hk,x,e,h=>by
  cases x with
  |cons f g=>
   simp only[gW,fZ,depthAll] at hk e;rw[List.forIn_cons];refine aa (aa (vE k _ _ A s _ hk.1 f (by omega) λtk i=>?_));refine aa (ao (ao ?_));exact ua xs _ _ A _ _ Q hk.2 g (by omega) λc a d j=>h c a (cO i d) (by simp[j,kB])
end
variable{A:Around}{s:Shared}
theorem p9{d:PyData}{v:Value}{as:List Addr}(hk:kq d=true)(r:Reads s.heap v d as)(h:d.depth=0):carriedByValue v=true:=by
 cases r<;>first|rfl|(simp[PyData.depth] at h)|(simp[kq] at hk)
def iA(s:Shared)(n:Nat)(rest:List Value):Prop:=∃ds as,ReadsAll s.heap rest ds as/\gW ds=true/\depthAll ds<=n
theorem iA.cons{n:Nat}{v:Value}{rest:List Value}(h:iA s n (v::rest)):(∃d as,Reads s.heap v d as/\kq d=true/\d.depth<=n)/\iA s n rest:=by
 obtain⟨ds,as,h1,h2,h3⟩:=h;cases h1 with
 |cons a b=>
  simp only[gW,fZ,depthAll] at h2 h3;exact⟨⟨_,_,a,h2.1,by omega⟩,_,_,b,h2.2,by omega⟩
theorem node{d:PyData}{v:Value}{as:List Addr}{n:Nat}(hk:kq d=true)(r:Reads s.heap v d as)(h0:d.depth≠0)(h:d.depth<=n+1):∃a o vs e,v=.ref a/\s.heap.get? a=some o/\o.cls=.type "tuple"/\o.data=.seq vs e/\iA s n vs.toList:=by
 cases r with
 | @tuple a o vs e xs b h1 h2 h3 c=>
  simp only[PyData.depth] at h;exact⟨a,o,vs,e,rfl,h1,h2,h3,xs,_,c,hk,by omega⟩
 |none=>simp[kq] at hk
 |bool=>simp[kq] at hk
 |int=>simp[PyData.depth] at h0
 |str=>simp[PyData.depth] at h0
 |list=>simp[kq] at hk
 |dict=>simp[kq] at hk
theorem vF:∀(n:Nat) (d:PyData) (v:Value) (as:List Addr) (Q:Bool->Shared->Prop),kq d=true->Reads s.heap v d as->d.depth<=n->Q true s->wpAny (model prog w) A (eqIsQuiet n v) Q E s
 |n,d,v,as,Q,hk,r,hn,h=>by
  by_cases z:d.depth=0
  .rw[eqIsQuiet_byValue _ (p9 hk r z)];exact ao h
  cases n with
  |zero=>omega
  |succ n=>
   obtain⟨a,o,vs,e,rfl,h1,h2,h3,j⟩:=node hk r z hn;have i:s.TypeIs (.ref a) "tuple":=⟨o,h1,h2⟩;unfold eqIsQuiet;refine aa (wpAny_specialOf i F.slot_tuple_eq.lookup ?_);show wpAny _ _ (isInstance (.ref a) (.type "tuple")>>=_) _ _ s;refine aa (oh i isSubtype_tuple_tuple ?_);simp only[jO,bU,bH];refine aa (g9 h1 h3 ?_);refine aa ?_;show wpAny _ _ (forIn vs _ _) _ _ s;rw[<-forIn_toList];refine lD _ (λrest r s'=>r.1=none/\s=s'/\iA s n rest) _ ?_ ?_ _ _ ⟨rfl,rfl,j⟩
   .rintro v rest r s' ⟨f,rfl,c⟩
    obtain⟨⟨d',g,r',k',n'⟩,b⟩:=c.cons;refine aa (vF n d' v g _ k' r' n' ?_);simp only[jO,bU,bH];exact ao ⟨rfl,rfl,b⟩
   .rintro ⟨k,l⟩ s' ⟨f,rfl,_⟩
    simp only at f;subst f;exact ao h
theorem CQ(n:Nat){v:Value}(h:carriedByValue v=true):ofAClassStatement n v=pure false:=by
 cases v with
 |ref a=>simp[carriedByValue] at h
 |_=>first|rfl|simp[ofAClassStatement]|(unfold ofAClassStatement;rfl)
theorem vf:∀(n:Nat) (d:PyData) (v:Value) (as:List Addr) (Q:Bool->Shared->Prop),kq d=true->Reads s.heap v d as->d.depth<=n->Q false s->wpAny (model prog w) A (ofAClassStatement n v) Q E s
 |n,d,v,as,Q,hk,r,hn,h=>by
  by_cases z:d.depth=0
  .rw[CQ _ (p9 hk r z)];exact ao h
  cases n with
  |zero=>omega
  |succ n=>
   obtain⟨a,o,vs,e,rfl,h1,h2,h3,i⟩:=node hk r z hn;have j:s.TypeIs (.ref a) "tuple":=⟨o,h1,h2⟩;unfold ofAClassStatement;refine aa (wpAny_typeOf j ?_);dsimp only;refine aa ?_;refine ao ?_;simp only[jO,bU,bH];refine aa (g9 h1 h3 ?_);dsimp only;refine aa ?_;rw[<-forIn_toList];refine lD _ (λrest r s'=>r.1=none/\s=s'/\iA s n rest) _ ?_ ?_ _ _ ⟨rfl,rfl,i⟩
   .rintro v rest r s' ⟨f,rfl,c⟩
    obtain⟨⟨d',g,r',k',n'⟩,b⟩:=c.cons;refine aa (vf n d' v g _ k' r' n' ?_);simp only[bU,bH];exact ao ⟨rfl,rfl,b⟩
   .rintro ⟨k,l⟩ s' ⟨f,rfl,_⟩
    simp only at f;subst f;exact ao h
theorem AR{n:Nat}{v:Value}(h:carriedByValue v=true):∃b,hashByValue n v=pure b:=by
 cases v with
 |ref a=>simp[carriedByValue] at h
 |_=>exact⟨_,by unfold hashByValue;rfl⟩
theorem uc:∀(n:Nat) (d:PyData) (v:Value) (as:List Addr) (Q:Bool->Shared->Prop),kq d=true->Reads s.heap v d as->d.depth<=n->(∀b,Q b s)->wpAny (model prog w) A (hashByValue n v) Q E s
 |n,d,v,as,Q,hk,r,hn,h=>by
  by_cases z:d.depth=0
  .obtain⟨b,e⟩:=AR (n:=n) (p9 hk r z)
   rw[e];exact ao (h b)
  cases n with
  |zero=>omega
  |succ n=>
   obtain⟨a,o,vs,e,rfl,h1,h2,h3,j⟩:=node hk r z hn;have k:s.TypeIs (.ref a) "tuple":=⟨o,h1,h2⟩;unfold hashByValue;refine aa (wpAny_specialOf k F.slot_tuple_hash.lookup ?_);dsimp only;refine aa (g9 h1 h3 ?_);refine aa ?_;show wpAny _ _ (forIn vs _ _) _ _ s;rw[<-forIn_toList];refine lD _ (λrest r s'=>r.1=none/\s=s'/\iA s n rest) _ ?_ ?_ _ _ ⟨rfl,rfl,j⟩
   .rintro v rest r s' ⟨_,rfl,f⟩
    obtain⟨⟨d',g,r',k',n'⟩,c⟩:=f.cons;refine aa (uc n d' v g _ k' r' n' λb=>?_);cases b with
    |false=>exact ao (ao (h false))
    |true=>exact ao ⟨rfl,rfl,c⟩
   .rintro ⟨l,m⟩ s' ⟨i,rfl,_⟩
    simp only at i;subst i;exact ao (h true)
end
def Kp(h0 h:Heap):Prop:=∀b o,h0.get? b=some o->h.get? b=some o
structure TK(K:Type)[DecidableEq K] where
 q:K->PyData
 P:K->Prop
 ok:∀k,kq (q k)=true
 lay:∀k,P k->(q k).canLay0=true
 dep:∀k,P k->(q k).depth<=8
 eq:∀x y,PyData.eqv (q x) (q y)=decide (x=y)
section
variable{prog:Program}{w:World}{E:aA}{A:Around}{s:Shared}{K:Type}[DecidableEq K]{kd:TK K}{h0:Heap}{k k':K}{a b:Addr}
def TK.is(kd:TK K)(h0:Heap)(k:K)(a:Addr):Prop:=kd.P k/\∃as,Reads h0 (.ref a) (kd.q k) as
def TK.hash(kd:TK K)(w:World)(k:K):Int:=hq w (kd.q k)
theorem TK.hashes{Q:Int->Shared->Prop}(d:A.units+40<cLine)(b:Kp h0 s.heap)(hk:kd.is h0 k a)(h:∀tk,s.toks<=tk->Q (kd.hash w k) {s with toks:=tk}):wpAny (model prog w) A (pyHash (.ref a)) Q E s:=by
 obtain⟨c,as,r⟩:=hk;exact vE _ _ _ A s _ (kd.ok k) (PyProof.Rows.Reads.keeps b r) (by have:=kd.dep k c;omega) h
theorem TK.eqs{Q:Bool->Shared->Prop}(i:A.units+40<cLine)(d:Kp h0 s.heap)(f:kd.is h0 k a)(g:kd.is h0 k' b)(h:Q (decide (k=k')) s):wpAny (model prog w) A (eqBool (.ref a) (.ref b)) Q E s:=by
 obtain⟨e,as,r⟩:=f;obtain⟨c,bs,r'⟩:=g;rw[<-kd.eq] at h;exact PySem.SeqAt.eqAt_reads _ _ A s _ _ _ _ (PyProof.Rows.Reads.keeps d r) (PyProof.Rows.Reads.keeps d r') (kd.lay k e) (kd.lay k' c) (by have:=kd.dep k e;omega) prog w E Q h
theorem TK.quiet{Q:Bool->Shared->Prop}(b:Kp h0 s.heap)(c:kd.is h0 k a)(h:Q true s):wpAny (model prog w) A (eqIsQuiet 8 (.ref a)) Q E s:=by
 obtain⟨d,as,r⟩:=c;exact vF 8 _ _ _ _ (kd.ok k) (PyProof.Rows.Reads.keeps b r) (kd.dep k d) h
theorem TK.ve{Q:Bool->Shared->Prop}(b:Kp h0 s.heap)(c:kd.is h0 k a)(h:Q false s):wpAny (model prog w) A (ofAClassStatement 8 (.ref a)) Q E s:=by
 obtain⟨d,as,r⟩:=c;exact vf 8 _ _ _ _ (kd.ok k) (PyProof.Rows.Reads.keeps b r) (kd.dep k d) h
theorem TK.hbv{Q:Bool->Shared->Prop}(c:Kp h0 s.heap)(d:kd.is h0 k a)(h:∀b,Q b s):wpAny (model prog w) A (hashByValue 8 (.ref a)) Q E s:=by
 obtain⟨e,as,r⟩:=d;exact uc 8 _ _ _ _ (kd.ok k) (PyProof.Rows.Reads.keeps c r) (kd.dep k e) h
end
end SM
section
open PySem PySem.Spec PyProof.Rows
namespace SM
open SR ST
section
variable{prog:Program}{w:World}{K:Type}[DecidableEq K]{kd:TK K}{h0:Heap}{A:Around}{E:aA}{s:Shared}
theorem seen{j:K}{b:Addr}{st:List Value}{Q:Bool->Shared->Prop}(e:Kp h0 s.heap)(hk:kd.is h0 j b)(f:∀y∈st,∃k a,y=.ref a/\kd.is h0 k a)(h:Q false s):
  wpAny (model prog w) A (searchCouldBeSeen (.ref b) st) Q E s:=by
 unfold searchCouldBeSeen;refine aa ?_;refine lD _ (λrest r s'=>r.1=none/\s'=s/\∀y∈rest,∃k a,y=.ref a/\kd.is h0 k a) _ ?_ ?_ _ _ ⟨rfl,rfl,f⟩
 .rintro v rest r s' ⟨g,rfl,c⟩
  obtain⟨k,a,rfl,d⟩:=c v cP;have nx:∀y∈rest,∃k a,y=Value.ref a/\kd.is h0 k a:=λu i=>c u (cz _ i);dsimp only;split
  .exact ao ⟨rfl,rfl,nx⟩
  .refine aa (TK.quiet e hk ?_)
   simp only[jO,bU,bH];refine aa (TK.quiet e d ?_);simp only[jO,bU,bH];refine aa (TK.ve e hk ?_);simp only[bU,bH];refine aa (TK.ve e d ?_);simp only[bU,bH];exact ao ⟨rfl,rfl,nx⟩
 .rintro ⟨l,m⟩ s' ⟨g,rfl,_⟩
  simp only at g;subst g;exact ao h
theorem search{a b:Addr}{c:K}{g:List (K×Addr)}{o:Obj}{es:Array (Int×Value)}{ep:Nat}{t:SetTable}{N:Nat}{Q:SetFound->Shared->Prop}
  (hu:A.units+40<cLine)(hp:Kp h0 s.heap)(ho:s.heap.get? a=some o)(hd:o.data= .set es ep t)(hf:t.fits es.size=true)(I:es.toList=g.map λx=>(kd.hash w x.1,Value.ref x.2))
  (J:∀x∈g,kd.is h0 x.1 x.2)(T:Tb t (g.map λx=>kd.hash w x.1))(hk:kd.is h0 c b)
  (R:(it t.mask N (aV t.mask (kd.hash w c))).j∉pl t)(hl:∀q,q<N->(it t.mask q (aV t.mask (kd.hash w c))).j∈pl t)(t9:N<10*SetTable.turns t.mask)
  (S:c∈g.map (·.1)->Q (.there none) s)(L:c∉g.map (·.1)->Q (.free (it t.mask N (aV t.mask (kd.hash w c))).j false) s):
  ∀(d fuel n:Nat) (st:Option SetTable.Probe),N - n=d->n<=N->d<fuel->st.getD (t.probeStart (kd.hash w c))=it t.mask n (aV t.mask (kd.hash w c))->
   (∀q,q<n->∀i:Nat,t.place[i]? =some (it t.mask q (aV t.mask (kd.hash w c))).j->∀x:K×Addr,g[i]? =some x->x.1≠c)->
   wpAny (model prog w) A (setSearchFrom a (.ref b) (kd.hash w c) true fuel st) Q E s:=by
 have u:∀(i:Nat) (x:K×Addr),g[i]? =some x->es[i]? =some (kd.hash w x.1,Value.ref x.2):=λi x r=>by
  rw[<-dj,I,bD,r];rfl
 have B:g.length=t.place.size:=by rw[T.sz,bA]
 intro d
 induction d using Nat.strongRecOn with
 |ind d ih=>
  intro fuel n st hd' hn U V M
  cases fuel with
  |zero=>exact absurd U (fE _)
  |succ fuel=>
   have D:∀q,it t.mask q (it t.mask n (aV t.mask (kd.hash w c)))=it t.mask (q+n) (aV t.mask (kd.hash w c)):=λq=>(jr _ _ _ _).symm
   unfold setSearchFrom
   refine aa (fW ho hd hf ?_)
   dsimp only
   have W:t.gaveWay=false:=by
    unfold SetTable.gaveWay
    rw[T.cy.2.2];rfl
   rw[W,V]
   simp only[bU,bH]
   have eN:it t.mask (N - n) (it t.mask n (aV t.mask (kd.hash w c)))=it t.mask N (aV t.mask (kd.hash w c)):=by rw[D,show N - n+n=N by omega]
   have X:=tY T.rs T.dm (f:=λi=>(es[i]?.map (·.1)).getD 0) (h:=kd.hash w c) (N - n) (10*SetTable.turns t.mask) (it t.mask n (aV t.mask (kd.hash w c))) (by omega) ((iT _ _).it n).d (by rw[eN];exact R) (λq hq=>by rw[D];exact hl _ (by omega))
   rcases X with⟨e,F⟩|⟨k,i,hkn,hi,hh,e,F⟩
   .have Y:t.probe (λi=>(es[i]?.map (·.1)).getD 0) (kd.hash w c) (it t.mask n (aV t.mask (kd.hash w c)))=some (.empty (it t.mask N (aV t.mask (kd.hash w c))).j none):=by
     show SetTable.probe.go _ _ _ _ _=_
     rw[e,eN]
    show wpAny _ _ (match t.probe (λi=>(es[i]?.map (·.1)).getD 0) (kd.hash w c) (it t.mask n (aV t.mask (kd.hash w c))) with|some met=>_|x=>_) _ _ _
    rw[Y]
    refine ao (L λO=> ?_)
    obtain⟨x,r,rfl⟩:=d9.mp O
    obtain⟨i,hi⟩:=List.getElem?_of_mem r
    have l:i<t.place.size:=by rw[<-B];exact(b6.mp hi).1
    have v:t.place[i]? =some (t.place[i]'l):=cu l
    have hz:(t.place[i]'l,kd.hash w x.1)∈(pl t).zip (g.map λx=>kd.hash w x.1):=by
     refine gJ (i:=i) ?_
     rw[List.getElem?_zip_eq_some]
     exact⟨by rw[dj];exact v,by rw[bD,hi];rfl⟩
    obtain⟨m,h1,h2⟩:=T.pa _ _ hz
    have hm:m<N:=by
     rcases Nat.lt_trichotomy m N with z|z|z
     .exact z
     .rw[z] at h1
      rw[h1] at R
      exact absurd (qj v) R
     .exact absurd (h2 N z) R
    by_cases z:m<n
    .exact M m z i (by rw[h1];exact v) x hi rfl
    .refine F (m - n) (by omega) i ?_ ?_
     .rw[D,show m - n+n=m by omega,h1];exact v
     .rw[u i x hi];rfl
   .have Y:t.probe (λi=>(es[i]?.map (·.1)).getD 0) (kd.hash w c) (it t.mask n (aV t.mask (kd.hash w c)))=some (.candidate (it t.mask (k+n) (aV t.mask (kd.hash w c))).j i (it t.mask (k+1+n) (aV t.mask (kd.hash w c)))):=by
     show SetTable.probe.go _ _ _ _ _=_
     rw[e,D,D]
    rw[D] at hi
    have l:i<g.length:=by
     rw[B]
     exact(Array.getElem?_eq_some_iff.mp hi).1
    have r:g[i]? =some (g[i]'l):=bf l
    generalize g[i]'l=x at r
    have Z:=J x (gJ r)
    show wpAny _ _ (match t.probe (λi=>(es[i]?.map (·.1)).getD 0) (kd.hash w c) (it t.mask n (aV t.mask (kd.hash w c))) with|some met=>_|x=>_) _ _ _
    rw[Y]
    dsimp only
    have main:wpAny (model prog w) A (do
      let some (_,y):=es[i]? |unsupported "internal:set-entry"
      let equal <-holding [y] (eqBool y (.ref b))
      let (es',_,t') <-setState a
      if true&&equal then return .there none
      let some same:=t'.sameMemory t.moves t.mask|unsupported "set.changed-during-lookup:is-the-new-block-at-the-old-address"
      let G <-match (if same then t'.slot (it t.mask (k+n) (aV t.mask (kd.hash w c))).j else .empty) with
       | .live C=>match es'[C]? with
        |some (_,y')=>do pure (if <-isSame y' y then some C else none)
        |none=>pure none
       |_=>pure none
      match G with
      |none=>rule "set.search.anew";setSearchFrom a (.ref b) (kd.hash w c) true fuel none
      |some C=>if equal then return .there (some C) else setSearchFrom a (.ref b) (kd.hash w c) true fuel (some (it t.mask (k+1+n) (aV t.mask (kd.hash w c))))) Q E s:=by
     rw[u i x r]
     dsimp only
     refine aa (fV (TK.eqs hu hp Z hk ?_))
     refine aa (fW ho hd hf ?_)
     dsimp only
     by_cases z:x.1=c
     .rw[lJ z]
      simp only[Bool.and_self,eH]
      exact ao (S (d9.mpr ⟨x,gJ r,z⟩))
     .rw[eG z]
      simp only[Bool.and_false,bU,bH]
      have es1:t.sameMemory t.moves t.mask=some true:=by unfold SetTable.sameMemory;rw[ai (by simp)]
      rw[es1]
      dsimp only
      rw[ai rfl,wY T.rs hi]
      dsimp only
      rw[u i x r]
      dsimp only
      refine aa (wpAny_isSame_ref_self ?_)
      refine aa (ao ?_)
      simp only[eH]
      refine ih (N - (k+1+n)) (by omega) fuel (k+1+n) _ rfl (by omega) (by omega) rfl λq hq C l H p=> ?_
      by_cases z1:q<n
      .exact M q z1 C l H p
      .by_cases z2:q=k+n
       .rw[z2] at l
        have:=pW T.rs hi l
        rw[<-this,r] at p
        cases p
        exact z
       .intro z3
        refine F (q - n) (by omega) C ?_ ?_
        .rw[D,show q - n+n=q by omega];exact l
        .rw[u C H p,z3];rfl
    split
    .refine aa (seen hp hk (λy hy=> ?_) ?_)
     .obtain⟨e1,AS,rfl⟩:=d9.mp hy
      have P:e1∈es.toList:=by
       have:e1∈(es.filter (λx=>x.1==kd.hash w c)).toList:=AS
       rw[Array.toList_filter] at this
       exact(mem_filter.mp this).1
      rw[I] at P
      obtain⟨H,p,rfl⟩:=d9.mp P
      exact⟨H.1,H.2,rfl,J H p⟩
     .simp only[bU,bH]
      exact main
    .exact main
end
def qu(m:Nat):Nat->Nat->List Nat
 |0,_=>[]
 |k+1,i=>i::qu m k ((i*5+1)%(m+1))
theorem vm(m:Nat):∀(k i j:Nat),j∈qu m k i->∃a,a<k/\cy m a i=j
 |0,i,j,h=>by cases h
 |k+1,i,j,h=>by
  rcases aR.mp h with rfl|h
  .exact⟨0,succ_pos _,rfl⟩
  .obtain⟨a,b,e⟩:=vm m k _ j h
   exact⟨a+1,by omega,by rw[l9];exact e⟩
theorem sG(m:Nat)(h:((range (m+1)).all λi=>(qu m (m+1) 0).contains i)=true)(h2:cy m (m+1) 0=0)(h3:m%2=1):dP m:=⟨λi hi=>by
 have:=all_eq_true.mp h i (ff.mpr (by omega));obtain⟨a,b,e⟩:=vm m (m+1) 0 i (by simpa using this);exact⟨a,by omega,e⟩,h2,h3⟩
theorem yS:dP 127:=sG 127 (by decide+kernel) (by decide+kernel) rfl
theorem yU:dP 511:=sG 511 (by decide+kernel) (by decide+kernel) rfl
def Wd(m n:Nat):Prop:=(m=7/\n<=4)\/(m=31/\n<=18)\/(m=127/\n<=76)\/(m=511/\n<=200)
theorem Wd.grow{m n:Nat}(h:Wd m n)(hn:n+1<=200)(b:(n+1)*5≥m*3):∃a,dP a/\SetTable.sizeAbove (SetTable.grown (n+1))=a+1/\n+1<=a/\Wd a (n+1):=by
 rcases h with⟨rfl,h⟩|⟨rfl,h⟩|⟨rfl,h⟩|⟨rfl,h⟩
 .obtain rfl:n=4:=by omega
  exact⟨31,yT,by decide+kernel,by omega,.inr (.inl ⟨rfl,by omega⟩)⟩
 .obtain rfl:n=18:=by omega
  exact⟨127,yS,by decide+kernel,by omega,.inr (.inr (.inl ⟨rfl,by omega⟩))⟩
 .obtain rfl:n=76:=by omega
  exact⟨511,yU,by decide+kernel,by omega,.inr (.inr (.inr ⟨rfl,by omega⟩))⟩
 .omega
theorem Wd.keep{m n:Nat}(h:Wd m n)(hn:n+1<=200)(a:¬(n+1)*5≥m*3):Wd m (n+1):=by
 rcases h with⟨rfl,h⟩|⟨rfl,h⟩|⟨rfl,h⟩|⟨rfl,h⟩
 .exact .inl ⟨rfl,by omega⟩
 .exact .inr (.inl ⟨rfl,by omega⟩)
 .exact .inr (.inr (.inl ⟨rfl,by omega⟩))
 .exact .inr (.inr (.inr ⟨rfl,by omega⟩))
theorem Wd.le{m n:Nat}(h:Wd m n)(hn:n+1<=200):n+1<=m/\m<=511:=by
 rcases h with⟨rfl,h⟩|⟨rfl,h⟩|⟨rfl,h⟩|⟨rfl,h⟩<;>omega
theorem tO{α β:Type}{f:α->Option β}{g:α->β}:∀{l:List α},(∀x∈l,f x=some (g x))->l.filterMap f=l.map g
 |[],_=>rfl
 |x::l,h=>by
  rw[oq,h x cP,f7,<-tO λy a=>h y (cz _ a)]
theorem Ef{α:Type}(l:List α)(d:α):(range l.length).map (λi=>l.getD i d)=l:=by
 refine ext_getElem (by simp) λi h1 h2=>?_;simp[b8,bf h2]
section
variable{prog:Program}{w:World}{K:Type}[DecidableEq K]
abbrev ent(kd:TK K)(w:World)(x:K×Addr):Int×Value:=(kd.hash w x.1,Value.ref x.2)
def TX(kd:TK K)(w:World)(h0 h:Heap)(a:Addr)(iL:List (K×Addr)):Prop:=
 ∃o ep t es,h.get? a=some o/\o.ExactSet/\o.data=.set es ep t/\es.toList=iL.map (ent kd w)/\Kp h0 h/\(∀x∈iL,kd.is h0 x.1 x.2)/\(iL.map (·.1)).Nodup/\
  t.led=(!w.params.followText "set-order")/\Tb t (iL.map λx=>kd.hash w x.1)/\Wd t.mask iL.length
variable{kd:TK K}{h0:Heap}{A:Around}{E:aA}{s:Shared}
theorem Kp.but{h h':Heap}{a:Addr}(k:Kp h0 h)(d:h0.get? a=none)(hs:SameBut a h h'):Kp h0 h':=λb o e=>by
 have c:b≠a:=by
  rintro rfl;rw[d] at e;cases e
 exact(hs.2 b c).trans (k b o e)
theorem add {a b : Addr} {g : K} {d : List (K × Addr)} {Q : Bool → Shared → Prop} (hu : A.units + 40 < cLine) (ha : h0.get? a = none) (hS : TX kd w h0 s.heap a d) (hk : kd.is h0 g b) (l : d.length + 1 ≤ 200)
    (h : ∀ h' u bb, SameBut a s.heap h' → TX kd w h0 h' a u → (g ∈ d.map (·.1) → u = d) → (g ∉ d.map (·.1) → u.Perm (d ++ [(g, b)])) → Q bb { s with heap := h' }) :
    wpAny (model prog w) A (setAddHashed a (.ref b) (kd.hash w g)) Q E s := by
  have pT := hS
  obtain ⟨o, ep, t, es, W, hex, hd, P, R, X, hnd, L, T, hm⟩ := hS
  have Y : es.size = d.length := by rw [← bu, P, bA]
  have hf : t.fits es.size = true := by rw [Y]; have := T.fits; rwa [bA] at this
  have uo : t.place.size = d.length := by rw [T.sz, bA]
  unfold setAddHashed setAddHashedIn
  refine fV (aa (fW W hd hf ?_))
  dsimp only
  rw [show byScan (.ref b) es = false from rfl]
  simp only [bU, bH]
  obtain ⟨N, t9, hN, hl⟩ := T.free (iT t.mask (kd.hash w g))
  unfold setSearch
  have Gp : N < 100000 := by
    have : SetTable.turns t.mask ≤ 526 := by unfold SetTable.turns; have := hm.le l; omega
    omega
  refine aa (search hu R W hd hf P X T hk hN hl t9 (fun hin => ?_) (fun v => ?_) (N - 0) 100000 0 none rfl (ck _) (by omega) rfl fun q hq => absurd hq (fE _))
  · refine ao ?_
    have e : s = { s with heap := s.heap } := by cases s; rfl
    rw [e]
    exact h s.heap d _ (SameBut.refl a s.heap) pT (fun _ => rfl) fun z => absurd hin z
  · dsimp only
    refine aa (fW W hd hf ?_)
    dsimp only
    have T1 := T.put hN hl (by have := hm.le l; omega)
    generalize hj : (it t.mask N (aV t.mask (kd.hash w g))).j = j at T1 ⊢
    have e1 : (t.put j).1.mask = t.mask := rfl
    have e2 : (t.put j).1.led = t.led := rfl
    have z6 : (t.put j).1.place.size = d.length + 1 := by
      have := T1.sz
      simp only [bV, dZ, e_, dY, bA] at this
      omega
    generalize B : d.take (t.put j).2 ++ ((g, b) :: d.drop (t.put j).2) = c
    have hk1 : (d.map fun x => kd.hash w x.1).take (t.put j).2 ++ (kd.hash w g :: (d.map fun x => kd.hash w x.1).drop (t.put j).2) = c.map fun x => kd.hash w x.1 := by
      rw [← B, map_append, f7, List.map_take, List.map_drop]
    rw [hk1] at T1
    have C : c.Perm (d ++ [(g, b)]) := by
      rw [← B]
      refine List.perm_middle.trans ?_
      rw [cK]
      exact (List.perm_append_singleton _ _).symm
    have n : (SetTable.insertAt es (t.put j).2 (kd.hash w g, Value.ref b)).toList = c.map (ent kd w) := by
      rw [uu, P, ← B, map_append, f7, List.map_take, List.map_drop]
    have D : c.length = d.length + 1 := by rw [C.length_eq, bV, gH]
    have M : (c.map (·.1)).Nodup := by
      refine (C.map _).nodup_iff.mpr ?_
      rw [map_append]
      refine List.nodup_append.mpr ⟨hnd, by simp, fun y hy z V => ?_⟩
      have hz' : z = g := by simpa using V
      rw [hz']
      rintro rfl
      exact v hy
    have k : (SetTable.insertAt es (t.put j).2 (kd.hash w g, Value.ref b)).size = d.length + 1 := by rw [← bu, n, bA, D]
    have fin : ∀ t1 : SetTable, t1.place = (t.put j).1.place → t1.dummies = (t.put j).1.dummies → t1.mask = t.mask → t1.led = t.led →
        wpAny (model prog w) A (do
          storeSet a (SetTable.insertAt es (t.put j).2 (kd.hash w g, .ref b)) t1
          if (!false && t1.tooFull) = true then do
            setRelay a (SetTable.grown (es.size + 1))
            pure true
          else pure true) Q E s := fun t1 q1 q2 q3 q4 => by
      have T2 : Tb t1 (c.map fun x => kd.hash w x.1) := T1.BZ q1 q2 q3
      refine aa (wpAny_storeSet_of W hd ?_ (ou (by rw [k]; unfold scanBound; omega)))
      generalize hE : SetTable.insertAt es (t.put j).2 (kd.hash w g, Value.ref b) = f at n k
      have I : (s.heap.update a (Obj.putSet f t1)).get? a = some { o with data := .set f (ep + 1) t1 } := by
        have := f5 (Obj.putSet f t1) W (by rw [putSet_of f t1 hd]; rfl)
        rw [putSet_of f t1 hd] at this; exact this
      have F := SameBut.update s.heap a (Obj.putSet f t1)
      have O : Kp h0 (s.heap.update a (Obj.putSet f t1)) := R.but ha F
      have Z : ∀ x ∈ c, kd.is h0 x.1 x.2 := fun x hx => by
        rcases aT.mp (C.mem_iff.mp hx) with z | z
        · exact X x z
        · rw [bF.mp z]; exact hk
      have S : t1.tooFull = decide ((d.length + 1) * 5 ≥ t.mask * 3) := by
        unfold SetTable.tooFull SetTable.fill
        rw [T2.dm, q1, z6, q3]; rfl
      rw [S]
      by_cases V : (d.length + 1) * 5 ≥ t.mask * 3
      · obtain ⟨m', cm, eg, hm1, hm2⟩ := hm.grow l V
        rw [lJ V]
        simp only [Bool.not_false, Bool.and_self, eH]
        rw [Y]
        unfold setRelay
        have hf1 : t1.fits f.size = true := by rw [k]; have := T2.fits; rwa [bA, D] at this
        refine aa (aa (fW I rfl hf1 ?_))
        dsimp only
        rw [eg, aj (by rw [lz]; have : m' ≤ 511 := (by rcases hm2 with z | z | z | z <;> omega); omega)]
        obtain ⟨J, m, el, em, zV, _, um, T3⟩ := BR cm (hs := f.map (·.1)) (by rw [size_map, k]; omega) t1.finger (t1.movedTo m') t1.led t1.plain
        have er : t1.relaid (f.map (·.1)) (SetTable.grown (d.length + 1)) = some (J, m) := by
          unfold SetTable.relaid
          rw [eg, add_sub_cancel]
          exact el
        rw [er]
        have hio : ∀ i, i ∈ m.toList → i < c.length := fun i hi => by
          have := ff.mp (um.mem_iff.mp hi)
          rw [size_map, k] at this
          omega
        have ue : ∀ i, i ∈ m.toList → f[i]? = some (ent kd w (c.getD i (g, b))) := fun i hi => by
          have := hio i hi
          rw [← dj, n, bD, b8, bf this]
          rfl
        have p : (m.filterMap (f[·]?)).toList = (m.toList.map fun i => c.getD i (g, b)).map (ent kd w) := by
          rw [Array.toList_filterMap, tO ue, f9]; rfl
        have G : (m.toList.map fun i => c.getD i (g, b)).Perm c := by
          have := um.map fun i => c.getD i (g, b)
          rw [size_map, k, ← D, Ef] at this
          exact this
        have U : (m.toList.map fun i => c.getD i (g, b)).length = d.length + 1 := by rw [G.length_eq, D]
        have H : (m.filterMap (f[·]?)).size = d.length + 1 := by rw [← bu, p, bA, U]
        have T4 : Tb J ((m.toList.map fun i => c.getD i (g, b)).map fun x => kd.hash w x.1) := by
          have e : (m.toList.map fun i => c.getD i (g, b)).map (fun x => kd.hash w x.1) = m.toList.map fun i => (f.map (·.1)).getD i 0 := by
            rw [f9]
            refine List.map_congr_left fun i hi => ?_
            rw [cM, Array.getElem?_map, ue i hi]
            rfl
          rw [e]; exact T3
        generalize Gq : (m.toList.map fun i => c.getD i (g, b)) = BF at p G U T4
        generalize AN : m.filterMap (f[·]?) = r at p H
        refine aa ?_
        show wpAny _ _ (if ((m.filterMap (f[·]?)).size != f.size) = true then _ else pure (m.filterMap (f[·]?), J)) _ _ _
        rw [AN, H, k, aj (by simp)]
        refine ao ?_
        refine wpAny_storeSet_of I rfl ?_ (ou (by rw [H]; unfold scanBound; omega))
        have AU : ((s.heap.update a (Obj.putSet f t1)).update a (Obj.putSet r J)).get? a = some { o with data := .set r (ep + 1 + 1) J } := by
          have := f5 (Obj.putSet r J) I (by rw [putSet_of (ep := ep + 1) (t := t1) r J rfl]; rfl)
          rw [putSet_of (ep := ep + 1) (t := t1) r J rfl] at this; exact this
        have A8 := F.trans (SameBut.update (s.heap.update a (Obj.putSet f t1)) a (Obj.putSet r J))
        refine ao (h _ BF true A8 ⟨_, _, _, _, AU, hex, rfl, p, O.but ha (SameBut.update _ a _), fun x hx => Z x (G.mem_iff.mp hx), (G.map _).nodup_iff.mpr M, by rw [zV, q4]; exact L, T4, by rw [em, U]; exact hm2⟩ (fun z => absurd z v) fun _ => G.trans C)
      · rw [eG V]
        simp only [Bool.and_false, bU, bH]
        refine ao (h _ c true F ⟨_, _, _, _, I, hex, rfl, n, O, Z, M, by rw [q4]; exact L, T2, ?_⟩ (fun z => absurd z v) fun _ => C)
        rw [q3, D]
        exact hm.keep l V
    split
    · refine aa (TK.hbv R hk fun bv => ?_)
      cases bv with
      | true => exact fin _ rfl rfl rfl rfl
      | false => exact fin { (t.put j).1 with plain := false } rfl rfl rfl rfl
    · refine aa (ao ?_)
      exact fin _ rfl rfl rfl rfl
end
end SM
namespace SM
open SS SR
section
variable{prog:Program}{w:World}{K:Type}[DecidableEq K]{kd:TK K}{h0:Heap}
theorem TX.y{h:Heap}{a:Addr}{b:List (K×Addr)}(S:TX kd w h0 h a b):∃es,es.toList=b.map (ent kd w)/\ST.gg w h a es:=by
 obtain⟨o,ep,t,es,f,hex,hd,c,l,g,i,d,T,j⟩:=S;have e:es.size=b.length:=by rw[<-bu,c,bA]
 have k:t.fits es.size=true:=by rw[e];have:=T.fits;rwa [bA] at this
 exact⟨es,c,o,ep,t,f,hex,hd,by rw[e];unfold scanBound;rcases j with z|z|z|z<;>omega,k,d,T.rs⟩
theorem TX.keeps{h h':Heap}{a:Addr}{b:List (K×Addr)}(S:TX kd w h0 h a b)(k:∀o,h.get? a=some o->h'.get? a=some o)(kp:Kp h0 h'):TX kd w h0 h' a b:=by
 obtain⟨o,ep,t,es,d,hex,hd,c,e,r⟩:=S;exact⟨o,ep,t,es,k o d,hex,hd,c,kp,r⟩
theorem TX.kp{h:Heap}{a:Addr}{b:List (K×Addr)}(S:TX kd w h0 h a b):Kp h0 h:=by
 obtain⟨o,ep,t,es,e,hex,hd,c,d,r⟩:=S;exact d
end
section
variable{prog:Program}{w:World}{K:Type}[DecidableEq K]{kd:TK K}{h0:Heap}{A:Around}{R:Result->Shared->Prop}{I:Addr}{fp wr:List Addr}{G:Array GenState->Array GenState->Prop}{n:Nat}{P:Nat->Value->Prop}{St:Nat->Shared->Prop}
theorem Kp.moved{s s':Shared}(k:Kp h0 s.heap)(a:∀b∈wr,h0.get? b=none)(c:Moved wr G s s'):Kp h0 s'.heap:=λb o e=>c.heap b o (λz=>by rw[a b z] at e;cases e) (k b o e)
theorem loop(W:WalksS prog w A.in1 I fp wr G n P St)(S:Addr)(H:S∉fp)(hu:A.in1.units+40<cLine)(val:Nat->K)(adr:Nat->Addr)(J:∀i v,P i v->v=.ref (adr i))(p:∀b∈S::wr,h0.get? b=none)(L:∀j,j<n->kd.is h0 (val j) (adr j))(q:n<=200):
  ∀(k i:Nat) (s:Shared) (c:List (K×Addr)),n - i=k->i<=n->St i s->TX kd w h0 s.heap S c->c.length<=i->(∀x,x∈c.map (·.1)↔∃j,j<i/\val j=x)->(∀x∈c,∃j,j<n/\x=(val j,adr j))->
   (∀s' d,Moved (S::wr) G s s'->TX kd w h0 s'.heap S d->d.length<=n->(∀x,x∈d.map (·.1)↔∃j,j<n/\val j=x)->(∀x∈d,∃j,j<n/\x=(val j,adr j))->R (.ok (.ret .none)) s')->
   codeAny (model prog w) A (.builtin "set.update.loop" ⟨[.ref S,.ref I],[]⟩) R s:=by
 have Y:S∉wr:=λh=>H (W.sub _ h);have r:∀b∈wr,b∈S::wr:=λb q=>cz _ q;have Z:h0.get? S=none:=p S cP;have hwn:∀b∈wr,h0.get? b=none:=λb q=>p b (cz _ q);have f:∀{s s':Shared} {c:List (K×Addr)},Moved wr G s s'->TX kd w h0 s.heap S c->TX kd w h0 s'.heap S c:=λ {s s' c} t E=>E.keeps (λo e=>t.heap S o Y e) (E.kp.moved hwn t);intro k;induction k with
 |zero=>
  intro i s c hk hi u E M g l hR;have hin:i=n:=by omega
  subst hin;refine gG F.entry_set_update_loop ?_;rw[g4 q8 _];show wpAny _ A.in1 (pyNext (.ref I)>>=_) _ _ s;refine aa (W.done s _ _ u λs' t=>?_);show wpAny _ A.in1 (ret Value.none) _ _ s';exact ao (hR s' c (t.mono r) (f t E) M g l)
 |succ k ih=>
  intro i s c hk hi u E M g l hR;have m:i<n:=by omega
  refine gG F.entry_set_update_loop ?_;rw[g4 q8 _];show wpAny _ A.in1 (pyNext (.ref I)>>=_) _ _ s;refine aa (W.item i s _ _ m u λv s' hP N t=>?_);obtain rfl:=J i v hP;have O:TX kd w h0 s'.heap S c:=f t E;show wpAny _ A.in1 (holding [Value.ref (adr i)] (setAdd S (.ref (adr i)))>>=_) _ _ s';refine aa (fV ?_);unfold setAdd;refine fV ?_;refine aa (TK.hashes hu O.kp (L i m) λtk Q=>?_);refine add (s:={s' with toks:=tk}) hu Z O (L i m) (by omega) λh' d b T AQ q1 q2=>?_;have U:d.length<=i+1:=by
   by_cases l:val i∈c.map (·.1)
   .rw[q1 l];omega
   .rw[(q2 l).length_eq,bV,gH];omega
  have hx':∀x∈d,∃j,j<n/\x=(val j,adr j):=λx B=>by
   by_cases hc:val i∈c.map (·.1)
   .rw[q1 hc] at B
    exact l x B
   .rcases aT.mp ((q2 hc).mem_iff.mp B) with z|z
    .exact l x z
    .exact⟨i,m,bF.mp z⟩
  have C:∀x,x∈d.map (·.1)↔∃j,j<i+1/\val j=x:=λx=>by
   have e1:x∈d.map (·.1)↔x∈c.map (·.1)\/x=val i:=by
    by_cases l:val i∈c.map (·.1)
    .rw[q1 l]
     exact⟨.inl,λz=>z.elim id λe=>e▸l⟩
    .have hp:=((q2 l).map λe=>e.1).mem_iff (a:=x)
     rw[map_append,aT] at hp;refine hp.trans ⟨λz=>z.imp id λy=>by simpa using y,λz=>z.imp id λy=>by simpa using y⟩
   rw[e1,g x];constructor
   .rintro (⟨j,hj,e⟩|rfl)
    .exact⟨j,by omega,e⟩
    .exact⟨i,by omega,rfl⟩
   .rintro ⟨j,hj,e⟩
    by_cases hji:j=i
    .exact .inr (by rw[<-e,hji])
    .exact .inl ⟨j,by omega,e⟩
  refine ao ⟨g7 q8 _,ih (i+1) _ d (by omega) m (W.frame _ s' _ _ N Q λb q o e=>?_) AQ U C hx' λs'' D V X hz hm2 AZ=>?_⟩
  .rw[T.2 b (λh:b=S=>H (by rw[<-h];exact q))];exact e
  .refine hR s'' D (Moved.trans W.gtrans ((t.mono r).then_heap Q λb o q e=>?_) V) X hz hm2 AZ
   rw[T.2 b (λh:b=S=>q (by rw[h];exact cP))];exact e
end
section
variable{prog:Program}{w:World}{K:Type}[DecidableEq K]{kd:TK K}{A:Around}{E:aA}{s:Shared}
theorem TX.fresh{h0 h:Heap}{a:Addr}(b:h.get? a=some (SS.eU w))(c:Kp h0 h):TX kd w h0 h a []:=
 ⟨_,_,_,#[],b,⟨rfl,rfl,rfl⟩,rfl,rfl,c,(λe d=>by simp at d),by simp,rfl,ST.Tb.fresh _ _ _,.inl ⟨rfl,ck _⟩⟩
theorem yu{l:Addr}{items:Array Value}{val:Nat->K}{adr:Nat->Addr}{Q:aA}
  (hh:A.handled=none)(hu:A.units+64<cLine)(hl:s.heap.IsList l items)(hi:∀(i:Nat) (v:Value),items[i]? =some v->v=Value.ref (adr i))(O:∀i,i<items.size->kd.is s.heap (val i) (adr i))(g:items.size<=200)
  (h:∀(h':Heap) (tk:Nat) (d:List (K×Addr)),TX kd w s.heap h' s.heap.objs.size d->d.length<=items.size->(∀x,x∈d.map (·.1)↔∃j,j<items.size/\val j=x)->(∀x∈d,∃j,j<items.size/\x=(val j,adr j))->
   (∀b o,b<s.heap.objs.size->s.heap.get? b=some o->h'.get? b=some o)->Q (.ref s.heap.objs.size) {s with heap:=h',toks:=tk}):
  wpAny (model prog w) A (call (.type "set") [.ref l]) Q E s:=by
 obtain⟨c,tl,Gs⟩:=ie.mro
 have P:=ie.made
 have hsub:=ie.sub
 refine wpAny_call (codeAny_of_tree ?_)
 show wpAny _ _ (callAny (.type "set") _) _ _ _
 refine ao ⟨Code.quiet_builtin _ (by decide+kernel),gG PySem.F.entry_type_call ?_⟩
 rw[Around.under_plain (weight_type_call_type "set" [.ref l] []) rfl]
 have h1:=ie.notType
 have h2:=ie.canCreate
 have hct:=PySem.F.typeCall_set_1 (.ref l)
 repeat (any_goals (first|assumption|wp_step))
 refine lI (SS.code_set_new (.ref l) (E:=E) (Q₁:=λobj k=>obj= .ref s.heap.objs.size/\k={s with heap:=s.heap.push (SS.eU w)}) ⟨rfl,rfl⟩) λr k S=> ?_
 cases r with
 |error e=>exact S
 |ok fl=>
  cases fl with
  |ret obj=>
   obtain⟨rfl,rfl⟩:=S
   have hS:(s.heap.push (SS.eU w)).get? s.heap.objs.size=some (SS.eU w):=bL _ rfl
   have hT:Shared.TypeIs {s with heap:=s.heap.push (SS.eU w)} (.ref s.heap.objs.size) "set":=⟨_,hS,rfl⟩
   have hli:=ie.init.lookup
   have hbi:=ie.init.bind (.ref s.heap.objs.size)
   repeat (any_goals (first|assumption|wp_step))
   refine lI (codeAny_call_builtin (R:=wants (λr m=>r= .none/\∃h' tk es,m={s with heap:=h',toks:=tk}/\
     TX kd w s.heap h' s.heap.objs.size es/\es.length<=items.size/\(∀x,x∈es.map (·.1)↔∃j,j<items.size/\val j=x)/\(∀x∈es,∃j,j<items.size/\x=(val j,adr j))/\
     (∀b o,b<s.heap.objs.size->s.heap.get? b=some o->h'.get? b=some o)) E) ie.init.plain PySem.F.entry_set_init (check_set_init_1 hT ?_)) λB m a=> ?_
   .obtain⟨ol,C,D,nl,G⟩:=hl
    obtain⟨GB,n,T,f⟩:=ol
    simp only at D G
    subst D;subst G
    have H:(s.heap.push (SS.eU w)).get? l=some {cls:= .type "list",dict:=n,data:= .seq items nl,slots:=f}:=a_ _ C
    have Gv:=PySem.F.sub_list_set
    have Gu:=PySem.F.sub_list_frozenset
    have hne:(Value.type "list" ==Value.type "dict")=false:=by decide
    have I:(s.heap.push (SS.eU w)).IsList l items:=⟨_,H,rfl,nl,rfl⟩
    unfold Builtin.«set.__init__» noKeywords Builtin.Frozenset.updateFrom
    generalize U:pyIter=PI
    wp_walk
    subst U
    refine wpAny_pyIter_list I ?_
    refine aa (wpAny_runValue ?_)
    have J:l<s.heap.objs.size:=aP C
    have V:A.in1.in1.in1.handled=none:=by simp[hh]
    have L:l≠(s.heap.push (SS.eU w)).objs.size:=by
     rw[cg];exact bz (fc J)
    have W:s.heap.objs.size∉[(s.heap.push (SS.eU w)).objs.size,l]:=by
     rw[cg];simp only[aR,bF,eW,eY,not_or]
     exact⟨bz (gI _),iU J⟩
    have M:∀b∈[s.heap.objs.size,(s.heap.push (SS.eU w)).objs.size],s.heap.get? b=none:=λb g=>by
     cases e:s.heap.get? b with
     |none=>rfl
     |some o=>
      have:=aP e
      rw[cg] at g
      simp only[aR,eW,eY] at g
      rcases g with z|z
      .rw[z] at this;exact absurd this (dw _)
      .rw[z] at this;exact absurd this (Nat.not_lt_of_lt (gI _))
    refine loop ((Walks.list V _ l L items).toS) s.heap.objs.size W (show A.units+3+40<cLine by omega) val adr (λi v hv=>hi i v hv) M O g (items.size - 0) 0 _ [] (by omega) (ck _)
     ⟨⟨_,bL _ rfl,rfl,rfl⟩,(I.push _)⟩ ?pT (aC _) (λx=>⟨λz=>by simp at z,λ⟨j,hj,_⟩=>absurd hj (fE _)⟩) (λx hx=>by simp at hx) ?hR
    case pT=>exact TX.fresh (a_ _ hS) λb o e=>a_ _ (a_ _ e)
    case hR=>
     intro s' X N p q t u
     obtain⟨h',g',d',Y,Z⟩:=s'
     have eg:g'=s.gens:=N.gens
     have ed:d'=s.drawn:=N.drawn
     have eo:Z=s.os:=N.os
     subst eg;subst ed;subst eo
     show wpAny _ _ _ _ _ _
     refine ao ?_
     show wpAny _ _ (ret Value.none) _ _ _
     refine ao ⟨rfl,h',Y,X,rfl,p,q,t,u,λb o g e=> ?_⟩
     have hb1:b≠s.heap.objs.size:=bz g
     have hb2:b≠(s.heap.push (SS.eU w)).objs.size:=by
      rw[cg];exact bz (fc g)
     exact N.heap b o (by simp only[aR,bF,eW,eY,not_or];exact⟨hb1,hb2⟩) (a_ _ (a_ _ e))
   .cases B with
    |error e=>exact a
    |ok y=>
     cases y with
     |ret r=>
      obtain⟨rfl,h',tk,es,rfl,p,q,t,u,hk'⟩:=a
      repeat (any_goals (first|assumption|wp_step))
      exact h _ _ es p q t u hk'
     |_=>exact a.elim
  |_=>exact S.elim
end
open PySem.W KO
section
variable{prog:Program}{w:World}{A:Around}{E:aA}{s:Shared}
open Classical in
theorem B4{κ:SortKind}{O:KeyOrd}{key:Nat->O.α}{a:Addr}{vs:List Value}{n:Nat}{P:PySem.Fin->Shared->Prop}(u:s.heap.get? a=some (seqObj "list" vs.toArray n))(z:vs.length<=sizeLine)
  (hk:∀s':Shared,(∀b o,b≠a->s.heap.get? b=some o->s'.heap.get? b=some o)->2<=vs.length->∀R:SortKind->Shared->Prop,R κ s'->wpAny (model prog w) A (keyKind' vs.toArray) R (λ_ _=>False) s')
  (B:∀(i j:Nat) v,vs[i]? =some v->vs[j]? =some v->key i=key j)
  (hc:∀s':Shared,(∀b o,b≠a->s.heap.get? b=some o->s'.heap.get? b=some o)->∀i j,i<vs.length->j<vs.length->∀C:Bool->Shared->Prop,C (O.blt (key i) (key j)) s'->kas_ask prog w A κ vs i j C s')
  (h:∀p:Array Nat,Pm vs.length p->Up O key p vs.length->P (.done (.ret .none)) {s with heap:=sortedHeap s.heap a vs (p.toList.map λi=>vs.getD i Value.none).toArray}):
  wpAny (model prog w) A (Builtin.«list.sort» ⟨[.ref a],[]⟩) P E s:=by
 have ex:∃g:Value->O.α,∀i v,vs[i]? =some v->g v=key i:=by
  refine⟨λv=>if q:∃i:Nat,vs[i]? =some v then key q.choose else key 0,λi v e=> ?_⟩
  have q:∃i:Nat,vs[i]? =some v:=⟨i,e⟩
  show(if q:∃i:Nat,vs[i]? =some v then key q.choose else key 0)=key i
  rw[dif_pos q]
  exact B _ _ v q.choose_spec e
 obtain⟨g,d⟩:=ex
 refine TS.B3 (κ:=κ) (O:=O) (key:=g) u z hk (λs' kp x D y F R K l=> ?_) λys G m=> ?_
 .obtain⟨i,hi,rfl⟩:=f6 D
  obtain⟨j,k,rfl⟩:=f6 F
  rw[d i _ (bf hi),d j _ (bf k)] at l
  have:=hc s' kp i j hi k R l
  unfold kas_ask at this
  rw[b8,b8,bf hi,bf k] at this
  exact jK this (λ_ _ q=>q) λ_ _ q=>q.elim
 .obtain⟨p,p1,p2⟩:=TS.DH G (TS.Eg vs Value.none)
  have pl:p.length=vs.length:=by rw[p1.length_eq,length_range]
  have e:=h p.toArray (g6.mpr p1) ?_
  .rw[<-p2] at e;exact e
  have f:∀i,i∈p->g (vs.getD i Value.none)=key i:=λi hi=>by
   have hi:i<vs.length:=ff.mp (p1.mem_iff.mp hi)
   refine d i _ ?_
   rw[b8,bf hi];rfl
  rw[p2,jG] at m
  intro i j H k
  have r:i<p.length:=by omega
  have t:j<p.length:=by omega
  have I:KO.kp O key p.toArray i=key p[i]:=by
   unfold KO.kp;simp[r]
  have J:KO.kp O key p.toArray j=key p[j]:=by
   unfold KO.kp;simp[t]
  rw[I,J]
  rcases d7 i j with c|c
  .have:=gC.mp m i j r t c
   rw[f _ (bM _),f _ (bM _)] at this
   exact this
  .obtain rfl:i=j:=by omega
   exact fF _
end
section
variable{prog:Program}{w:World}{K:Type}[DecidableEq K]{kd:TK K}{h0:Heap}{A:Around}{E:aA}{s:Shared}
theorem TK.one{k k':K}{a:Addr}(h:kd.is h0 k a)(h':kd.is h0 k' a):k=k':=by
 obtain⟨p,as,r⟩:=h;obtain⟨b,bs,r'⟩:=h';have e:=PySem.SeqAt.Reads.unique _ _ _ _ _ (kd.lay k p) r r';have q:=kd.eq k k';rw[<-e,PySem.SeqAt.eqv_refl _ (kd.lay k p)] at q;exact of_decide_eq_true q.symm
abbrev cU(iL:List (K×Addr)):List Value:=iL.map λx=>Value.ref x.2
theorem E4{κ:SortKind}{O:KeyOrd}{key:K->O.α}{a:Addr}{g:List (K×Addr)}{Q:aA}(I:A.handled=none)(J:TX kd w h0 s.heap a g)(x0:K)(r:∀x∈g,kd.is h0 x.1 x.2)(L:g.length<=200)
  (hk:∀c,c.Perm g->∀s':Shared,(∀b o,s.heap.get? b=some o->s'.heap.get? b=some o)->2<=(cU c).length->∀R:SortKind->Shared->Prop,R κ s'->wpAny (model prog w) A.in1.in1 (keyKind' (cU c).toArray) R (λ_ _=>False) s')
  (hc:∀c,c.Perm g->∀s':Shared,(∀b o,s.heap.get? b=some o->s'.heap.get? b=some o)->∀i j,i<(cU c).length->j<(cU c).length->∀C:Bool->Shared->Prop,C (O.blt (key (c.getD i (x0,0)).1) (key (c.getD j (x0,0)).1)) s'->kas_ask prog w A.in1.in1 κ (cU c) i j C s')
  (h:∀(p:Array Nat) (c:List (K×Addr)) (h':Heap) (d:Drawn) (tk:Nat) (D:Addr) (e:Nat),c.Perm g->Pm (cU c).length p->Up O (λi=>key (c.getD i (x0,0)).1) p (cU c).length->s.heap.objs.size<=D->
   h'.get? D=some (seqObj "list" (p.toList.map λi=>(cU c).getD i Value.none).toArray e)->(∀b o,s.heap.get? b=some o->h'.get? b=some o)->Q (.ref D) {s with heap:=h',drawn:=d,toks:=tk}):
  wpAny (model prog w) A (call (.builtin "sorted") [.ref a]) Q E s:=by
 obtain⟨es,F,M⟩:=J.y
 refine Calls.call_function_entry kind_sorted plain_sorted entry_sorted (args_sorted1 _) ?_
 unfold Builtin.«sorted»
 refine aa (m:=checkCount "sorted" 1 1 _) (ao ?_)
 refine aa (ST.yE I M λh1 d tk zs N G k1=> ?_)
 obtain⟨c,n,rfl⟩:=ST.DG (f:=λx:K×Addr=>Value.ref x.2) N g (by rw[F,f9];rfl)
 have P:(cU c).length<=sizeLine:=by rw[bA,n.length_eq,lz];omega
 refine aa (wpAny_newList ?_)
 have l:(h1.push (seqObj "list" (cU c).toArray 0)).get? h1.objs.size=some (seqObj "list" (cU c).toArray 0):=bL _ rfl
 have keep:∀b o,s.heap.get? b=some o->(h1.push (seqObj "list" (cU c).toArray 0)).get? b=some o:=λb o q=>a_ _ (k1 b o q)
 have ne:∀b o,s.heap.get? b=some o->b≠h1.objs.size:=λb o q=>bz (aP (k1 b o q))
 show wpAny _ _ _ _ _ {s with heap:=h1.push (seqObj "list" (cU c).toArray 0),drawn:=d,toks:=tk}
 refine aa (fV (g8 slot_list_sort ⟨_,l,rfl⟩ entry_list_sort ?body (args_list_sort _)))
 case body=>
  refine B4 (κ:=κ) (O:=O) (key:=λi=>key (c.getD i (x0,0)).1) (s:={s with heap:=h1.push (seqObj "list" (cU c).toArray 0),drawn:=d,toks:=tk})
   l P (λs' k=>hk c n s' λb o q=>k b o (ne b o q) (keep b o q)) (λi j v t u=> ?hv) (λs' k=>hc c n s' λb o q=>k b o (ne b o q) (keep b o q)) λp H S=>⟨_,rfl,ao ⟨_,rfl,?_⟩⟩
  case hv=>
   rw[bD] at t u
   cases z:c[i]? with
   |none=>rw[z] at t;cases t
   |some x=>
    cases B:c[j]? with
    |none=>rw[B] at u;cases u
    |some y=>
     rw[z] at t
     rw[B] at u
     cases t
     have T:y.2=x.2:=by injection (Option.some.inj u)
     have k1:=r x (n.mem_iff.mp (gJ z))
     have k2:=r y (n.mem_iff.mp (gJ B))
     rw[T] at k2
     rw[b8,b8,z,B]
     show key x.1=key y.1
     rw[TK.one k1 k2]
  obtain⟨e,U⟩:=sortedHeap_at (out:=(p.toList.map λi=>(cU c).getD i Value.none).toArray) l
  refine h p c _ d tk _ e n H S G U λb o q=> ?_
  rw[sortedHeap_old (ne b o q) (aP (keep b o q))]
  exact keep b o q
end
end SM
namespace L2
open PySem.SeqAt
section
variable{X:Cx}
def FJ(K:Frag)(ta:TA):TE:=λσ H Q=>ta σ H λvs H1=>∃(T:Type) (_:DecidableEq T) (kd:SM.TK T) (x0:T) (a:Addr) (as:List Addr) (c9:List T) (O:KeyOrd) (key:T->O.α),vs=[.ref a]/\aX K H1 a (as.map V.ref)/\as.length=c9.length/\as.length<=200/\
 (∀i,i<as.length->Dp K H1 (.ref (as.getD i 0)) (kd.q (c9.getD i x0)))/\(∀k∈c9,kd.P k/\∃x r,kd.q k= .tuple (.str x::r))/\(∀k∈c9,∀k'∈c9,ltQ (kd.q k) (kd.q k')=some (O.blt (key k) (key k')))/\
 ∀(l:Addr) (p:List Nat),H1 l=none->(∀i∈p,i<as.length)->(p.map λi=>c9.getD i x0).Nodup->(∀x,x∈(p.map λi=>c9.getD i x0)↔x∈c9)->(p.map λi=>c9.getD i x0).Pairwise (λa b=>O.kle (key a) (key b))->
  Q (.ref l) (upd H1 l (.lst (p.map λi=>V.ref (as.getD i 0))))
theorem DB{e:Expr}{ta:TA}{p1 p2 pos1 pos2:Pos}(hms:X.mg "sorted"=none)(hmt:X.mg "set"=none)(hc:X.calm=true)(hu:X.A.units+64<cLine)(ha:PA X [e] ta)(hgs:Gl X "sorted":=by rfl)(hgt:Gl X "set":=by rfl)
  (hs:starEach [e] X.env=[(false,eval e X.env)]:=by rfl)(hz:starEach [.Call (.Name "set" p2) [e] [] pos2] X.env=[(false,eval (.Call (.Name "set" p2) [e] [] pos2) X.env)]:=by rfl):
  PE X (.Call (.Name "sorted" p1) [.Call (.Name "set" p2) [e] [] pos2] [] pos1) (FJ X.K ta):=by
 intro pins s σ H Q I h;refine n8 (mS I hgs hms (show bootBuiltins "sorted"=some (.builtin "sorted") by with_unfolding_all rfl) ?_);refine PyProof.Rows.callWith_builtin1 ?_ hz rfl;rw[hz];refine Calls.spliced_cons (n8 (mS I hgt hmt (show bootBuiltins "set"=some (.type "set") by with_unfolding_all rfl) (PyProof.Rows.callWith_type1 (aD (ha pos2 pins s σ H _ I h) λus Y ⟨vs,H1,P,r1,q1⟩=>?_) hs rfl)));obtain⟨T,_,kd,x0,a,as,g,O,key,e,hq,hlen,AM,htup,G,hlt,q⟩:=q1;subst e;obtain⟨u,rfl,ru⟩:=vals1 r1;cases ru;obtain⟨its,rv,pl,Gx⟩:=P.list hq;obtain rfl:=xC rv;have Z:(as.map Value.ref).toArray.size=as.length:=by simp
 refine SM.yu (kd:=kd) (val:=λi=>g.getD i x0) (adr:=λi=>as.getD i 0) (P.ok.hd hc) (by omega) pl.isList (λi v J=>?_) (λi hi=>?_) (by rw[Z];exact AM) λh2 tk k hS AY S w m=>?_
 .have J:(as.map Value.ref)[i]?=some v:=by simpa using J
  rw[bD] at J;cases ea:as[i]? with
  |none=>rw[ea] at J;cases J
  |some b=>
   rw[ea] at J;cases J;rw[b8,ea];rfl
 .rw[Z] at hi
  have hm:g.getD i x0∈g:=by
   rw[b8,bf (by omega)];exact bM _
  obtain⟨bs,rd⟩:=Dp.reads P _ _ (.ref (as.getD i 0)) (htup i hi) rfl;exact⟨(G _ hm).1,bs,rd⟩
 rw[Z] at AY S w;have hkp:SM.Kp Y.heap h2:=hS.kp;have hkk:∀x∈k,kd.is Y.heap x.1 x.2:=by obtain⟨_,_,_,_,_,_,_,_,_,z,_⟩:=hS;exact z
 have hnd:(k.map (·.1)).Nodup:=by obtain⟨_,_,_,_,_,_,_,_,_,_,z,_⟩:=hS;exact z
 have alt:Y.heap.objs.size<h2.objs.size:=by obtain⟨o,_,_,_,ho,_⟩:=hS;exact aP ho
 have B:∀x,x∈k.map (·.1)↔x∈g:=λx=>by
  rw[S x,hlen];constructor
  .rintro ⟨j,D,rfl⟩
   rw[b8,bf D];exact bM D
  .intro U
   obtain⟨j,D,e⟩:=f6 U;exact⟨j,D,by rw[b8,bf D];exact e⟩
 have rd:∀c:List (T×Addr),c.Perm k->∀s':Shared,(∀b o,h2.get? b=some o->s'.heap.get? b=some o)->∀i:Nat,i<c.length->∃x:T×Addr,c[i]?=some x/\x.1∈g/\∃bs,Reads s'.heap (.ref x.2) (kd.q x.1) bs:=λc L s' kp i hi=>by
  refine⟨c[i]'hi,bf hi,?_,?_⟩
  .exact(B _).mp (d9.mpr ⟨_,L.mem_iff.mp (bM hi),rfl⟩)
  .obtain⟨_,bs,r⟩:=hkk _ (L.mem_iff.mp (bM hi))
   exact⟨bs,PyProof.Rows.Reads.keeps (λb o e=>kp b o (hkp b o e)) r⟩
 refine Calls.spliced_nil ?_;refine SM.E4 (s:={Y with heap:=h2,toks:=tk}) (κ:=tuples' true) (O:=O) (key:=key) (P.ok.hd hc) hS x0 hkk (by omega) (λc L s' kp h2' R hR=>?_) (λc L s' kp i j hi D C hC=>?_) λp c h3 d qO l ep L pV hup hge hl3 k3=>?_
 .obtain⟨fs,f1,f2,f3⟩:=kat_tups (h:=s'.heap) (vs:=SM.cU c) (qs:=c.map λx=>kd.q x.1) (by simp) λi v qq M e2=>by
   rw[bD] at M e2;have hi:i<c.length:=by
    cases ek:c[i]? with
    |none=>rw[ek] at M;cases M
    |some x=>exact(b6.mp ek).1
   obtain⟨x,ex,U,bs,hr⟩:=rd c L s' kp i hi;rw[ex] at M e2;cases M;cases e2;obtain⟨y,r,ey⟩:=(G _ U).2;exact⟨bs,y,r,hr,ey⟩
  refine PySem.W.kat_kind (T:=Value.type "str") f2 (by omega) (λv J=>?_) (by decide) hR;obtain⟨x,t,rfl⟩:=f3 v J;exact PySem.W.Looks.of_pure rfl
 .rw[bA] at hi D
  obtain⟨x,ex,U,bs,hr⟩:=rd c L s' kp i hi;obtain⟨y,ey,hy,bs',hr'⟩:=rd c L s' kp j D;have hl:=hlt _ U _ hy;rw[b8,b8,ex,ey] at hC;obtain⟨p1,x0',xr,M⟩:=G _ U;obtain⟨p2,y0,yr,e2⟩:=G _ hy;have c1:=kd.lay _ p1;have c2:=kd.lay _ p2;have c3:=kd.dep _ p1;rw[M] at hr hl c1 c3;rw[e2] at hr' hl c2;unfold PySem.W.kas_ask;rw[b8,b8,bD,bD,ex,ey];exact KP.BL hl hr hr' c1 c2 (zE (by omega) (by omega)) hC
 .have hn:H1 l=none:=P.hok.fresh (cO (iu alt) hge)
  have uo:=pV.size;have N:(p.toList.map λi=>c.getD i (x0,0)).Perm k:=by
   have:=(g6.mp pV).map λi=>c.getD i (x0,0);rw[show(SM.cU c).length=c.length from by simp] at this;rw[DP.B9] at this;exact this.trans L
  obtain⟨E,pL,AX⟩:=uL (f:=λj=>(g.getD j x0,as.getD j 0)) (n:=as.length) (l:=p.toList.map λi=>c.getD i (x0,0)) λx U=>w x (N.mem_iff.mp U);have F:E.map (λj=>g.getD j x0)=(p.toList.map λi=>c.getD i (x0,0)).map (·.1):=by rw[pL,f9];rfl
  have z5:(p.toList.map λi=>(SM.cU c).getD i Value.none)=(E.map λj=>as.getD j 0).map Value.ref:=by
   have M:(E.map λj=>as.getD j 0)=(p.toList.map λi=>c.getD i (x0,0)).map (·.2):=by rw[pL,f9];rfl
   rw[M,f9,f9];refine List.map_congr_left λi hi=>?_;have hi':i<c.length:=by
    have:=(g6.mp pV).mem_iff.mp hi;simpa using this
   rw[b8,bD];show _=Value.ref (c.getD i (x0,0)).2;rw[b8,bf hi'];rfl
  have hjl:E.length<=200:=by
   have:k.length=E.length:=by rw[<-N.length_eq,pL,bA]
   omega
  have emap:(E.map λi=>V.ref (as.getD i 0))=(E.map λj=>as.getD j 0).map V.ref:=by rw[f9];rfl
  have I2:Inv X pins σ (upd H1 l (.lst (E.map λi=>V.ref (as.getD i 0)))) {Y with heap:=h3,drawn:=d,toks:=qO}:=by
   have m:∀b o,Y.heap.get? b=some o->h2.get? b=some o:=λb o e=>m b o (aP e) e;refine P.call (ch:=[]) (g':=Y.gens) (d':=d) (t':=qO) (h':=h3) (H':=upd H1 l (.lst (E.map λi=>V.ref (as.getD i 0)))) ⟨λb o q _ _ _=>k3 b o (m b o q),λb o q _ _ _=>⟨o.slots,k3 b o (m b o q)⟩,λb o q n _=>?_,λb o q _=>⟨o,k3 b o (m b o q)⟩,λb xs q=>?_,λb o u q=>?_,λb ps q=>⟨#[],?_⟩⟩ ?_ P.bare λb z=>absurd z (by simp)
   .rw[bh (bz (bO (aP q) (cO (iu alt) hge)))];exact n
   .rw[bh (c5 q hn)];exact q
   .rw[bh (c5 q hn)];exact q
   .rw[bh (c5 q hn),q];simp
   .exact P.hok.laid (λb u q=>k3 b u (m b u q)) (cO (iu alt) hge) ⟨by rw[bA,lz];omega,(E.map λj=>as.getD j 0).map Value.ref,ep,by rw[emap];exact xB _,by rw[<-z5];exact hl3⟩
  refine⟨.ref l,_,I2,rfl,q l E hn AX ?_ (λx=>?_) ?_⟩
  .rw[F]
   exact(N.map _).nodup_iff.mpr hnd
  .rw[F,(N.map _).mem_iff,B]
  .rw[F,f9,jG,gC]
   intro i j hi D hij;have:=hup i j (iu hij) (by rw[<-uo];simpa using D);unfold KO.kp at this;have gi:p.getD i 0=p.toList[i]:=by
    rw[cM,cu (by simpa using hi)];simp
   have gj:p.getD j 0=p.toList[j]:=by
    rw[cM,cu (by simpa using D)];simp
   rw[gi,gj] at this;exact this
end
end L2
namespace DP
open L2
@[irreducible] def jA(r:Nat)(A:Ar)(R:DK):Prop:=match A[r]? with
 |some (.lst ds)=>∃(T:Type) (_:DecidableEq T) (kd:SM.TK T) (x0:T) (en:T->D) (c9:List T) (O:KeyOrd) (key:T->O.α),ds=c9.map en/\(∀k,dI (en k)=true/\toQ (en k)=kd.q k/\∃us,en k=.tup us)/\c9.length<=200/\(∀k∈c9,kd.P k/\∃x r,kd.q k=.tuple (.str x::r))/\(∀k∈c9,∀k'∈c9,ltQ (kd.q k) (kd.q k')=some (O.blt (key k) (key k')))/\
  ∀nZ:List T,nZ.Nodup->(∀x,x∈nZ↔x∈c9)->nZ.Pairwise (λa b=>O.kle (key a) (key b))->R (.ref A.length) (A++[.lst (nZ.map en)])
 |_=>False
def E0:iy:=λvs A R=>match vs with
 |[.ref r]=>jA r A R
 |_=>False
section
variable{mg:aq}{ι:Io}{H:Hp}{n:Nat}
theorem xo{T:Type}{d:T->D}(e:∀k,∃b,d k=.tup b):∀{c:List T} {b:List V},ak mg ι n H (c.map d) b->∃as:List Addr,b=as.map V.ref/\as.length=c.length
 |[],b,h=>by
  cases b with
  |nil=>exact⟨[],rfl,rfl⟩
  |cons=>cases h
 |k::c,b,h=>by
  obtain⟨_,_,rfl,h1,h3⟩:=h;obtain⟨ds,f⟩:=e k;rw[f] at h1;obtain⟨a,g,rfl,j,h2⟩:=h1;obtain⟨as,rfl,i⟩:=xo e h3;exact⟨a::as,rfl,by simp[i]⟩
end
section
variable{X:Cx}{N:En}{e:Expr}{n:cB}{p1 p2 pos1 pos2:Pos}
theorem zC(g:X.mg "sorted"=none)(h:X.mg "set"=none)(hc:X.calm=true)(B:X.A.units+64<cLine)(C:PA X [e] (eE X.mg N n))(m:Gl X "sorted":=by rfl)(o:Gl X "set":=by rfl)
  (hs:starEach [e] X.env=[(false,eval e X.env)]:=by rfl)(D:starEach [.Call (.Name "set" p2) [e] [] pos2] X.env=[(false,eval (.Call (.Name "set" p2) [e] [] pos2) X.env)]:=by rfl):
  PE X (.Call (.Name "sorted" p1) [.Call (.Name "set" p2) [e] [] pos2] [] pos1) (up X.mg N (o8 E0 n)):=cZ (DB g h hc B C m o hs D) λσ H Q q=>by
 obtain⟨A,ι,τ,R,S,q,k⟩:=q;refine⟨A,ι,τ,_,S,q,λvs E s H1 F b G y t=>?_⟩;match vs,b,t with
 |[.ref r],b,t=>
  obtain⟨_,_,rfl,⟨_,rfl⟩,rfl⟩:=t;have b:jA r E R:=b;unfold jA at b;split at b
  .rename_i ds e
   obtain⟨F,h1,h2⟩:=y.lst e;obtain⟨T,_,kd,x0,u,a,O,key,rfl,c,I,hk,w,q⟩:=b;obtain⟨as,rfl,J⟩:=xo (λk=>(c k).2.2) h2;have z:∀i,i<as.length->RV X.mg s _ H1 (u (a.getD i x0)) (.ref (as.getD i 0)):=λi hi=>by
    have f:i<a.length:=by omega
    obtain⟨M,g1,g2⟩:=ak.get h2 (i:=i) (d:=u a[i]) (by rw[bD,bf f];rfl);rw[bD,bf hi] at g1;cases g1;rw[b8,b8,bf hi,bf f];exact g2
   refine⟨T,_,kd,x0,_,as,a,O,key,rfl,aX.of h1,J,by omega,λi hi=>?_,hk,w,λl p hn K x L hs=>?_⟩
   .rw[<-(c _).2.1]
    exact RV.dp _ _ (c _).1 (z i hi)
   refine m8 (k.from G) y (ds:=(p.map λi=>a.getD i x0).map u) (ak.of_get (by simp) λi d v g1 g2=>?_) (q _ x L hs) hn;rw[bD,bD] at g1;rw[bD] at g2;cases ep:p[i]? with
   |none=>rw[ep] at g1;cases g1
   |some j=>
    rw[ep] at g1 g2;cases g1;cases g2;exact z j (K j (gJ ep))
  .exact b.elim
end
theorem E1{A:Ar}{r:Nat}{R:DK}{T:Type}{i:DecidableEq T}{kd:SM.TK T}(x0:T){e:T->D}{c:List T}{O:KeyOrd}{key:T->O.α}(h:A[r]?=some (.lst (c.map e)))(f:∀k,dI (e k)=true/\toQ (e k)=kd.q k/\∃l,e k=.tup l)(g:c.length<=200)(hk:∀k∈c,kd.P k/\∃x r,kd.q k=.tuple (.str x::r))
  (j:∀k∈c,∀k'∈c,ltQ (kd.q k) (kd.q k')=some (O.blt (key k) (key k')))(q:∀d:List T,d.Nodup->(∀x,x∈d↔x∈c)->d.Pairwise (λa b=>O.kle (key a) (key b))->R (.ref A.length) (A++[.lst (d.map e)])):jA r A R:=by
 unfold jA;rw[h];exact⟨T,i,kd,x0,e,c,O,key,rfl,f,g,hk,j,q⟩
end DP
variable{P:Program}{w:World}{K:Frag}{mg:aq}{base:Heap}
namespace My
open L2 DP
def top(i:Nat):Stmt:=PySem.Challenge.pw_hangstill_k12_whole_least_turned.main.body.getD i (.Pass ⟨0,0,0,0⟩)
abbrev wD:Stmt:=top 7
abbrev nE:List Str:=["thing","first","last"]
theorem EJ:bE ["thing","first","last"] nE (aI wD):=cE
abbrev wC:Stmt:=top 8
abbrev nD:List Str:=["thing"]
theorem EI:bE ["thing"] nD (aI wC):=cE
abbrev wB:Stmt:=top 9
abbrev nC:List Str:=["thing","rods"]
theorem EH:bE ["thing","rods"] nC (aI wB):=cE
abbrev wA:Stmt:=top 10
abbrev nB:List Str:=["thing"]
theorem EG:bE ["thing"] nB (aI wA):=cE
abbrev wu:Stmt:=top 11
abbrev kW:List Str:=["thing"]
theorem EE:bE ["thing"] kW (aI wu):=cE
abbrev wI:Stmt:=top 13
abbrev nH:List Str:=["rod"]
theorem EM:bE ["rod"] nH (aI wI):=cE
abbrev wF:Stmt:=top 15
abbrev kX:List Str:=["mobile"]
theorem wO:bE ["mobile","rod"] kX (aI wF):=cE
abbrev wH:Stmt:=top 16
abbrev nG:List Str:=["mobile"]
theorem wQ:bE ["mobile","many"] nG (aI wH):=cE
abbrev wG:Stmt:=top 17
abbrev nF:List Str:=["mobile"]
theorem EK:bE ["mobile"] nF (aI wG):=cE
abbrev wz:Stmt:=top 18
abbrev nA:List Str:=["mobile"]
theorem EF:bE ["mobile"] nA (aI wz):=cE
abbrev wc:Stmt:=top 20
abbrev nk:List Str:=["_law_script","_law_k"]
theorem Ez:bE ["_law_script","_law_k"] nk (aI wc):=cE
abbrev wh:Stmt:=top 21
abbrev nt:List Str:=["_law_script","_law_k","_law_many"]
theorem EB:bE ["_law_script","_law_k","_law_many","_law_drawn"] nt (aI wh):=cE
abbrev we:Stmt:=top 22
abbrev iS:List Str:=["_law_script","_law_town","_law_many"]
theorem EA:bE ["_law_script","_law_town","_law_many"] iS (aI we):=cE
abbrev wk:Stmt:=top 23
abbrev kU:List Str:=["_law_script","_law_town","_law_some_here"]
theorem EC:bE ["_law_script","_law_town","_law_some_here"] kU (aI wk):=cE
abbrev wj:Stmt:=top 24
abbrev nu:List Str:=["_law_script","_law_town","_law_names_here","_law_deep"]
theorem wL:bE ["_law_script","_law_town","_law_names_here","_law_deep","_law_most","_law_left","_law_right","_law_one"] nu (aI wj):=cE
abbrev wg:Stmt:=top 25
abbrev nq:List Str:=["_law_part","_law_row"]
theorem wK:bE ["_law_part","_law_row","_law_one"] nq (aI wg):=cE
abbrev wm:Stmt:=top 26
abbrev nv:List Str:=["_law_script","_law_town","_law_deep"]
theorem ED:bE ["_law_script","_law_town","_law_deep","_law_part"] nv (aI wm):=cE
abbrev wo:Stmt:=top 30
abbrev ny:List Str:=["_law_script","_law_town","_law_part"]
theorem wM:bE ["_law_script","_law_town","_law_part","_law_one","_law_other"] ny (aI wo):=cE
abbrev v_:Stmt:=top 31
abbrev nj:List Str:=["_law_part"]
theorem wJ:bE ["_law_part","_law_made","_law_one","_law_other"] nj (aI v_):=cE
abbrev gy:Stmt:=top 32
abbrev qv:List Str:=["_law_script"]
theorem wN:bE ["_law_script","_law_town","_law_mobile_here","_law_every","_law_other"] qv (aI gy):=cE
open MA
theorem Am(T:TopD K mg "is_number" wD nE)(d:mg "isinstance"=none)(f:mg "bool"=none)(g:mg "int"=none):aG P w K mg base 1 "is_number" nE (aH mg 3 rQ):=by
 refine eT T EJ λj k l m nd=>⟨_,(aZ (cS (PW.pt (gh (gS (j_ BP d f boot_bool (vr 0))) (iH (gR (gS (j_ BQ d g boot_int (vr 0))))))) (aU (aY ji)) cT)
  (aU (aY (tu (vr 1) (vr 0) (vr 2))))),λds A R h n=>?_⟩
 obtain⟨v,⟨i,a,b,rfl,rfl⟩,q⟩:=h;refine cD (λc=>?_) (λc=>?_)
 .have e:(decide (a<=i)&&decide (i<=b))=decide (i<=b):=by simp[c]
  rw[e] at q;exact q _ Gr.refl
 .have e:(decide (a<=i)&&decide (i<=b))=false:=by simp[c]
  rw[e] at q;exact q _ Gr.refl
theorem vg{c d:Nat}:([c]:List Nat)<[d]↔c<d:=by simp[List.cons_lt_cons_iff]
theorem ER:("a":Str).cps.toList=[97]:=by decide+kernel
theorem ES:("z":Str).cps.toList=[122]:=by decide+kernel
theorem Al(T:TopD K mg "is_name" wC nD)(b:mg "isinstance"=none)(d:mg "str"=none)(g:mg "len"=none)(i:mg "all"=none){t:Tok}(a:mg "LONGEST_NAME"=some (.int 3 t)):aG P w K mg base 1 "is_name" nD (aH mg 1 rP):=by
 refine eT T EI λr s j u nd=>⟨_,(aZ (cS (PW.pt (gh (gR (gS (j_ uB b d boot_str (vr 0)))) (iH (gR (FO ay (eu fu ef g fJ (af (vr 0) av)) (mj a)))))) (aU (aY ji)) cT)
  (aU (aY (eu (yl rfl) zh i boot_all (af (zx none (own:=["letter"]) (frees:=[]) (ix:=[]) rfl (zI (vr 0)) (λc=>(pG 0 (show(["letter"]:List Str).Nodup by decide+kernel))) (λc=>(tu bJ (vr 0) bJ))) av))))),λds A R h y=>?_⟩
 obtain⟨v,⟨n,rfl,hn,rfl⟩,q⟩:=h;have k:n.length<=sizeLine:=cO hn.hi (by decide);have h1:=hn.lo;have h3:=hn.hi;refine⟨k,cD (λ_=>?_) (λc=>absurd (show(1:Int)<=(n.length:Nat) by omega) c)⟩;refine cN (λc=>absurd (show((n.length:Nat):Int)<=3 by omega) c) (λ_=>?_);refine sE (f:=λ_=>.bl true) trivial _ _ (λx j=>⟨[x],rfl,λQ l=>?_⟩) ?_ ?_
 .obtain⟨c,hc,rfl⟩:=d9.mp j
  obtain⟨z,B⟩:=hn.az c hc;have m:¬((⟨#[c]⟩:Str).cps.toList<("a":Str).cps.toList):=by
   rw[ER];intro h;have:=vg.mp h;omega
  have o:¬(("z":Str).cps.toList<(⟨#[c]⟩:Str).cps.toList):=by
   rw[ES];intro h;have:=vg.mp h;omega
  refine cN (λ_=>?_) (λh=>absurd h m);have p:(!decide (("z":Str).cps.toList<(⟨#[c]⟩:Str).cps.toList))=true:=by rw[eG o];rfl
  show Q (.bl (!decide (("z":Str).cps.toList<(⟨#[c]⟩:Str).cps.toList))) A;rw[p];exact l
 .have:(gz n).length=n.length:=by simp[gz,Str.length]
  show 0+(gz n).length<=sizeLine;omega
 .refine x9 (bs:=(gz n).map λ_=>true) dU (sr _ _) ?_
  have e:((gz n).map λ_=>true).all id=true:=by simp
  rw[e];exact q _ Gr.push
theorem Aj(T:TopD K mg "is_mobile_within" wB nC)(i:mg "isinstance"=none)(x:mg "str"=none)(u:mg "tuple"=none)(k:mg "len"=none){t:Tok}(g:mg "LONGEST_ARM"=some (.int 9 t))
  (o:aG P w K mg base 1 "is_name" nD (aH mg 1 rP))(j:aG P w K mg base 1 "is_number" nE (aH mg 3 rQ)):∀d,aG P w K mg base (d+1) "is_mobile_within" nC (aH mg 2 (rK d)):=by
 intro d;induction d with
 |zero=>
  refine iI T λds A R RE h=>?_;obtain⟨v,⟨m,_,_,h,_⟩,_⟩:=h;omega
 |succ d e=>
  refine fP T EH rfl (by decide) λN RE f G B outer s H E y U z ds A R h V=>?_;have p:=y.units;refine⟨_,(aZ (cS (PW.pt (gh (gR (gS (j_ kit_tuple i u boot_tuple (vr 0)))) (gh (dJ p (eu fu ef k fJ (af (vr 0) av)) ay) (iH (gR (gS (j_ uB i x boot_str (dX p (vr 0) ay)))))))) (aU (aY ji)) cT)
  (aZ (cS (dJ p (dX p (vr 0) ay) bJ) (aU (aY (pe (pK p (eu fu ef k fJ (af (vr 0) av)) ay) (pC (dL o y z (af (dX p (vr 0) ay) av)))))) cT)
  (aZ (cS (PW.pt (gh (nP p (dX p (vr 0) ay) bJ) (gh (nP p (eu fu ef k fJ (af (vr 0) av)) ay) (iH (dJ p (vr 1) ay))))) (aU (aY ji)) cT)
  (aZ (cS (PW.pt (gh (gR (gS (dL j y z (af (dX p (vr 0) ay) (af ay (af (mj g) av)))))) (iH (gR (gS (dL j y z (af (dX p (vr 0) ay) (af ay (af (mj g) av))))))))) (aU (aY ji)) cT)
  (aU (aY (pe (dL e y z (af (dX p (vr 0) ay) (af (mq (vr 1) ay) av))) (pC (dL e y z (af (dX p (vr 0) ay) (af (mq (vr 1) ay) av))))))))))),?_⟩
  obtain⟨v,⟨m,rfl,C,hd,rfl⟩,q⟩:=h;cases m with
  |wt n=>
   exact⟨rfl,_,⟨n,rfl,C.nm n (by simp[bI.names]),rfl⟩,q⟩
  |ah l r a b=>
   obtain⟨⟨h1,h2,h3,I,J,L⟩,hn⟩:=C;have M:max a.deep b.deep+1<d+1:=hd;have F:((d+1:Nat):Int) - 1 - 1=(d:Int) - 1:=by omega
   have O:(decide (1<=l)&&decide (l<=9))=true:=by simp[h1,h2]
   have Q:(decide (1<=r)&&decide (r<=9))=true:=by simp[h3,I]
   refine cD (λc=>absurd c (by omega)) (λ_=>?_);refine⟨rfl,_,⟨l,1,9,rfl,rfl⟩,λW g1=>?_⟩;rw[O];refine⟨rfl,_,⟨r,1,9,rfl,rfl⟩,λX g2=>?_⟩;rw[Q];refine⟨rfl,_,⟨a,show [enc a,D.int (((d+1:Nat):Int) - 1 - 1)]=_ by rw[F],⟨J,λn h=>hn n (by simp[bI.names,h])⟩,by omega,rfl⟩,λY g3=>?_⟩;refine⟨rfl,_,⟨b,show [enc b,D.int (((d+1:Nat):Int) - 1 - 1)]=_ by rw[F],⟨L,λn h=>hn n (by simp[bI.names,h])⟩,by omega,rfl⟩,λZ S=>?_⟩;exact q _ (((g1.trans g2).trans g3).trans S)
theorem Ak(T:TopD K mg "is_mobile" wA nB){t:Tok}(b:mg "MOST_RODS"=some (.int 5 t))(a:aG P w K mg base 7 "is_mobile_within" nC (aH mg 2 (rK 6))):aG P w K mg base 8 "is_mobile" nB (aH mg 1 rJ):=by
 refine eT T EG λc f d g nd=>⟨_,(aU (aY (dL a c d (af (vr 0) (af (mj b) av))))),λds A R h i=>?_⟩;obtain⟨v,⟨m,rfl,e,hd,rfl⟩,q⟩:=h;exact⟨rfl,_,⟨m,rfl,e,by omega,rfl⟩,q⟩
theorem Af(T:TopD K mg "check_mobile" wu kW){a:Addr}(c:mg "NoMobile"=some (.ref a))(d:excIn K a qV "ValueError.__new__"=true)(b:aG P w K mg base 8 "is_mobile" nB (aH mg 1 rJ)):aG P w K mg base 9 "check_mobile" kW (aH mg 1 oO):=by
 refine eT T EE λe f g j nd=>⟨_,(aU (cS (gR (gS (dL b e g (af (vr 0) av)))) (aU (zQ f rfl c d (af bJ av))) cT)),λds A R h k=>?_⟩;obtain⟨v,⟨m,rfl,i,hd,rfl⟩,q⟩:=h;exact⟨rfl,_,⟨m,rfl,i,hd,rfl⟩,λl g1=>q _ g1⟩
theorem Ae(T:TopD K mg "_law_cell_at" wc nk)(a:mg "len"=none):aG P w K mg base 1 "_law_cell_at" nk (aH mg 2 rF):=by
 refine eT T Ez λg i j d nd=>⟨_,(aZ (cS (FP (vr 1) (eu fu ef a fJ (af (vr 0) av))) (aU (aY (dX d (vr 0) (vr 1)))) cT)
  (aZ (cS (dJ d (vr 0) (fy av)) (aU (aY ay)) cT)
  (aU (aY (jh (jk (dX d (vr 0) (jj (vr 1) (eu fu ef a fJ (af (vr 0) av)))) ay) (vr 1)))))),λds A R h l=>?_⟩
 obtain⟨ns,k,rfl,hk,q⟩:=h;refine cD (λc=>?_) (λc=>?_)
 .obtain⟨v,e,_⟩:=lY hk c
  conv=>whnf
  rw[e];exact q v _ Gr.refl
 .refine⟨ck _,z8 ?_⟩
  refine cD (λf=>?_) (λf=>?_)
  .exact q _ _ Gr.push
  .have b:0<(ns.length:Int):=by
    have:=List.length_pos_iff.mpr f;omega
   obtain⟨v,e,_⟩:=lY (xs:=ns) (emod_nonneg k (by omega)) (oz k b);refine⟨b,?_⟩;conv=>whnf
   rw[e];exact⟨.inr ⟨by decide,by decide⟩,q _ _ Gr.push⟩
theorem As(T:TopD K mg "_law_mixed" wh nt)(a:aG P w K mg base 1 "_law_cell_at" nk (aH mg 2 rF)):aG P w K mg base 2 "_law_mixed" nt (aH mg 3 rN):=by
 refine eT T EB λc e d f nd=>⟨_,(aZ (dS 3 nd (jj (jh (jh (jk (dL a c d (af (vr 0) (af (vr 1) av))) ay) (jk ay (vr 1))) ay) ay))
  (aU (aY (jj (jj (jj (zA (vr 3) ay) ay) ay) (vr 2))))),λds A R h j=>?_⟩
 obtain⟨ns,k,m,rfl,hk,b,q⟩:=h;refine⟨rfl,ns,k,rfl,hk,λi A' g=>?_⟩;refine⟨.inr ⟨by decide,by decide⟩,.inl ⟨by decide,by decide⟩,(by decide:(0:Int)<2147483647),?_⟩;have l:=emod_nonneg (i*1103515245+7919*k+12345) (show(2147483647:Int)≠0 by decide);have n:=oz (i*1103515245+7919*k+12345) (show(0:Int)<2147483647 by decide);refine⟨⟨by decide,by decide,?_⟩,(by decide:(0:Int)<2147483647),(by decide:(0:Int)<999983),b,?_⟩
 .have:(2147483647:Nat)<2 ^ 64:=by decide
  omega
 exact q _ _ (emod_nonneg _ (by omega)) (oz _ b) g
theorem Ag(T:TopD K mg "_law_draw" we iS)(b:mg "len"=none)(a:aG P w K mg base 2 "_law_mixed" nt (aH mg 3 rN)):aG P w K mg base 3 "_law_draw" iS (aH mg 3 jY):=by
 refine eT T EA λe l f o nd=>⟨_,(aZ (kj (pq plainAttrs_list PySem.F.slot_list_append PySem.F.type_list_append ql sL (vr 1) (af ay av)))
  (aU (aY (dL a e f (af (vr 0) (af (eu fu ef b fJ (af (vr 1) av)) (af (vr 2) av))))))),λds A R h p=>?_⟩
 obtain⟨ns,t,m,n,rfl,⟨xs,d,j⟩,hn,k,q⟩:=h;refine⟨pY d,rZ d (by rw[sizeLine];omega) ?_⟩;have c:(A.set t (.lst (xs++[.int 0])))[t]?=some (.lst (xs++[.int 0])):=get_set d;refine kF c ⟨rfl,ns,_,m,rfl,by omega,k,λi A' h0 h1 g=>?_⟩;exact q i A' h0 h1 (bG.set.trans g.but) (Tw.gr ⟨_,c,by simpa using j⟩ g)
theorem Av(T:TopD K mg "_law_pick" wk kU)(c:mg "len"=none)(a:aG P w K mg base 3 "_law_draw" iS (aH mg 3 jY)):aG P w K mg base 4 "_law_pick" kU (aH mg 3 lU):=by
 refine eT T EC λd m e g nd=>⟨_,(aU (aY (dX g (vr 2) (dL a d e (af (vr 0) (af (vr 1) (af (eu fu ef c fJ (af (vr 2) av)) av))))))),λds A R h o=>?_⟩;obtain⟨ns,t,r,xs,n,rfl,f,d,e,j,hn,q⟩:=h;have p:=List.length_pos_iff.mpr e;refine kF d ⟨rfl,ns,t,_,n,rfl,j,hn,by omega,λi A' h0 h1 b t'=>?_⟩;obtain⟨v,k,l⟩:=lY h0 h1;exact ux (b r _ f d) k (q v A' l b t')
theorem Au(T:TopD K mg "_law_mobile" wj nu)(a:aG P w K mg base 3 "_law_draw" iS (aH mg 3 jY))(g:aG P w K mg base 4 "_law_pick" kU (aH mg 3 lU)):∀d,aG P w K mg base (d+4) "_law_mobile" nu (aH mg 4 (rO d)):=by
 intro d;induction d with
 |zero=>
  refine iI T λds A R RE h=>?_;obtain⟨ns,t,q,p,n,_,h,_⟩:=h;omega
 |succ d e=>
  refine fP T wL rfl (by decide) λN RE f cdv B outer s H E o hR l ds A R h hl=>?_;have W:=o.units;have nd:=wL.nd;refine⟨_,(aZ (cS (PW.pt (gh (dJ W (vr 3) ay) (iH (dJ W (dL a o l (af (vr 0) (af (vr 1) (af ay av)))) ay)))) (aU (aY (fN (af bJ (af (dL g o l (af (vr 0) (af (vr 1) (af (vr 2) av)))) av))))) cT)
  (aZ (dS 4 nd (dL g o l (af (vr 0) (af (vr 1) (af (fy (af ay (af ay (af ay (af ay av))))) av)))))
  (aZ (sZ (i:=5) (j:=6) rfl nd rfl rfl (by decide) rfl rfl (af (jh ay (dL a o l (af (vr 0) (af (vr 1) (af (vr 4) av))))) (af (jh ay (dL a o l (af (vr 0) (af (vr 1) (af (vr 4) av))))) av)) rfl)
  (aZ (dS 7 nd (dL e o l (af (vr 0) (af (vr 1) (af (vr 2) (af (mq (vr 3) ay) av))))))
  (aU (aY (fN (af bJ (af (vr 5) (af (vr 6) (af (vr 7) (af (dL e o l (af (vr 0) (af (vr 1) (af (vr 2) (af (mq (vr 3) ay) av))))) av)))))))))))),?_⟩
  obtain⟨ns,t,r,p,n,rfl,_,m,S,u,v,X,hc,q⟩:=h;have hcs:=yM d;have hcp:=yL (d+1);have G:((d+1:Nat):Int) - 1=(d:Int):=by omega
  have leaf:∀F I,bG t A F->Tw t I F->n<=I->I+1<=n+cst (d+1)->lU [.fl ns,.ref t,.ref r] F (λx A'=>2<=sizeLine/\R (.tup [.str "weight",x]) A') RE:=λF I J t1 h0 h1=>by
   refine⟨ns,t,r,_,I,rfl,m,J r _ m S,by simpa using u,t1,by omega,λx A' l b t'=>⟨by decide,?_⟩⟩;obtain⟨y,Y,rfl⟩:=d9.mp l;have one:∀z∈bI.names (bI.wt y),z=y:=λz L=>by simpa[bI.names] using L
   exact q (.wt y) A' ⟨trivial,λz L=>by rw[one z L];exact v y Y⟩ (succ_pos _) (λz L=>by rw[one z L];exact Y) ⟨J.trans b,t'.mono (by omega)⟩
  refine cD (λc=>⟨rfl,leaf A n bG.refl X (by omega) (by omega)⟩) (λc=>?_);refine⟨rfl,ns,t,4,n,rfl,X,by omega,by decide,λi F _ _ J t1=>?_⟩;refine cD (λc2=>⟨rfl,leaf F (n+1) J t1 (by omega) (by omega)⟩) (λc2=>?_);obtain⟨GG,U,_⟩:=id t1;have M:0<d:=by omega
  have l1:=iP U;refine⟨show 4<=sizeLine by decide,rfl,ns,t,_,[.int 2,.int 3,.int 4,.int 9],n+1,rfl,by omega,dU,by simp,t1.gr Gr.push,by omega,λx A2 l b2 t2=>?_⟩;obtain⟨most,rfl,m0,m9⟩:∃k:Int,x=.int k/\2<=k/\k<=9:=by
   simp at l;rcases l with h|h|h|h<;>exact⟨_,h,by omega,by omega⟩
  refine⟨rfl,ns,t,most,n+2,rfl,t2,by omega,by omega,λi3 A3 i0 i1 b3 t3=>?_⟩;refine⟨rfl,ns,t,most,n+3,rfl,t3,by omega,by omega,λi4 A4 j0 j1 b4 t4=>?_⟩;have C:bG t A A4:=(((J.trans (Gr.push.but)).trans b2).trans b3).trans b4;refine⟨rfl,ns,t,r,p,n+4,show [D.fl ns,D.ref t,D.ref r,D.int (((d+1:Nat):Int) - 1 - 1)]=_ by rw[G],M,m,C r _ m S,u,v,t4,by omega,λO A5 Z d1 s1 V=>?_⟩;refine⟨rfl,ns,t,r,p,n+4+cst d,show [D.fl ns,D.ref t,D.ref r,D.int (((d+1:Nat):Int) - 1 - 1)]=_ by rw[G],M,m,V.but r _ m (C r _ m S),u,v,V.tw,by omega,λQ A6 w2 d2 s2 r2=>?_⟩;refine⟨show 5<=sizeLine by decide,q (.ah (1+i3) (1+i4) O Q) A6 ⟨⟨by omega,by omega,by omega,by omega,Z.arms,w2.arms⟩,λx l=>?_⟩ (show max O.deep Q.deep+1<d+1 by omega) (λx l=>?_) ⟨(C.trans V.but).trans r2.but,r2.tw.mono (by omega)⟩⟩
  .rcases aT.mp (show x∈O.names++Q.names from l) with h|h
   .exact Z.nm x h
   .exact w2.nm x h
  .rcases aT.mp (show x∈O.names++Q.names from l) with h|h
   .exact s1 x h
   .exact s2 x h
theorem CC{c:Nat}(h1:97<=c)(h2:c<=122):Nm ⟨#[c]⟩:=by
 refine⟨by show 1<=1;decide,by show 1<=3;decide,λx a=>?_⟩;have:x=c:=by simpa using a
 omega
theorem rV:("abcdefghijklmnopqrstuvwxyz":Str).cps.toList=(range 26).map (·+97):=by decide+kernel
theorem xZ{k:Int}(h0:0<=k)(h1:k<26):∃c,bK ("abcdefghijklmnopqrstuvwxyz":Str).cps.toList k=some c/\97<=c/\c<=122:=by
 obtain⟨c,hc,a⟩:=lY (xs:=("abcdefghijklmnopqrstuvwxyz":Str).cps.toList) h0 (by rw[rV];simpa using h1);refine⟨c,hc,?_⟩;rw[rV] at a;obtain⟨j,b,rfl⟩:=d9.mp a;have:=ff.mp b;omega
theorem Ah(T:TopD K mg "_law_fresh" wg nq)(g:mg "len"=none):∀d,aG P w K mg base (d+1) "_law_fresh" nq (aH mg 2 (rG d)):=by
 intro d;induction d with
 |zero=>
  refine iI T λds A R RE h=>?_;obtain⟨m,q,n,_,_,h,_⟩:=h;omega
 |succ d e=>
  refine fP T wK rfl (by decide) λN RE f L B outer s H E u hR p ds A R h hl=>?_;have i:=u.units;have nd:=wK.nd;refine⟨_,(aZ (cS (dJ i (dX i (vr 0) ay) bJ) (aZ (kj (pq plainAttrs_list PySem.F.slot_list_append PySem.F.type_list_append ql sL (vr 1) (af ay av)))
  (aU (aY (fN (af bJ (af (dX i bJ (jj (jk (eu fu ef g fJ (af (vr 1) av)) ay) ay)) av)))))) cT)
  (aZ (dS 2 nd (dL e u p (af (dX i (vr 0) ay) (af (vr 1) av))))
  (aU (aY (jh (zB (vr 0) zL (zM ay)) (fN (af (vr 2) (af (dL e u p (af (dX i (vr 0) ay) (af (vr 1) av))) av)))))))),?_⟩
  obtain⟨m,r,n,rfl,M,hd,h8,⟨xs,t,j⟩,hn,q⟩:=h;have p2:2 ^ (d+1)=2*2 ^ d:=by rw[pow_succ];omega
  have p0:0<2 ^ d:=pow_pos (by decide);have O:(1000000:Nat)<sizeLine:=by decide
  cases m with
  |wt y=>
   refine⟨pY t,rZ t (by omega) ?_⟩;have k:(A.set r (.lst (xs++[.int 0])))[r]?=some (.lst (xs++[.int 0])):=get_set t;refine kF k ⟨.inr ⟨by decide,by decide⟩,(by decide:(0:Int)<26),?_⟩;obtain⟨c,hc,Q,S⟩:=xZ (emod_nonneg (((xs++[D.int 0]).length:Nat)*7:Int) (by decide)) (oz (((xs++[D.int 0]).length:Nat)*7:Int) (by decide));refine BA hc (by decide+kernel) ⟨show 2<=sizeLine by decide,?_⟩;have one:∀z∈bI.names (bI.wt (⟨#[c]⟩:Str)),z=⟨#[c]⟩:=λz j=>by simpa[bI.names] using j
   exact q (.wt ⟨#[c]⟩) _ ⟨trivial,λz j=>by rw[one z j];exact CC Q S⟩ rfl ⟨bG.set,_,k,by simp;omega⟩
  |ah l r' a b=>
   have U:max a.deep b.deep+1<d+1:=hd;obtain⟨⟨h1,h2,h3,V,W,X⟩,o⟩:=M;refine⟨rfl,a,r,n,rfl,⟨W,λx h=>o x (by simp[bI.names,h])⟩,by omega,by omega,⟨xs,t,j⟩,by omega,λv A1 G Y ra=>?_⟩;refine⟨show ¬(HT.aE 5 0 none=0/\HT.aE 5 5 (some 3)=5) by decide,rfl,b,r,n+2 ^ d,rfl,⟨X,λx h=>o x (by simp[bI.names,h])⟩,by omega,by omega,ra.tw,by omega,λC Z I db J=>?_⟩;refine⟨show 2<=sizeLine by decide,show 3+2<=sizeLine by decide,?_⟩;refine q (.ah l r' v C) Z ⟨⟨h1,h2,h3,V,G.arms,I.arms⟩,λx p=>?_⟩ (show max v.deep C.deep+1=max a.deep b.deep+1 by rw[Y,db]) ⟨ra.but.trans J.but,J.tw.mono (by omega)⟩;rcases aT.mp (show x∈v.names++C.names from p) with h|h
   .exact G.nm x h
   .exact I.nm x h
theorem u7:Nm "a":=⟨by decide+kernel,by decide+kernel,by decide+kernel⟩
theorem u9:Nm "b":=⟨by decide+kernel,by decide+kernel,by decide+kernel⟩
theorem CA:Nm "c":=⟨by decide+kernel,by decide+kernel,by decide+kernel⟩
theorem CD:Nm "x":=⟨by decide+kernel,by decide+kernel,by decide+kernel⟩
theorem CB:Nm "kk":=⟨by decide+kernel,by decide+kernel,by decide+kernel⟩
theorem CF:∀x∈(["a"]:List Str),Nm x:=λx h=>by
 rw[bF.mp h];exact u7
theorem CG:∀x∈(["a","b"]:List Str),Nm x:=λx h=>by
 rcases aR.mp h with e|h
 .rw[e]
  exact u7
 rw[bF.mp h];exact u9
theorem CH:∀x∈(["x","b","kk","c"]:List Str),Nm x:=λx h=>by
 rcases aR.mp h with e|h
 .rw[e]
  exact CD
 rcases aR.mp h with e|h
 .rw[e]
  exact u9
 rcases aR.mp h with e|h
 .rw[e]
  exact CB
 rw[bF.mp h];exact CA
theorem Aw(T:TopD K mg "_law_some" wm nv)(f:aG P w K mg base 3 "_law_draw" iS (aH mg 3 jY))(j:aG P w K mg base 4 "_law_pick" kU (aH mg 3 lU))(FM:∀d,aG P w K mg base (d+4) "_law_mobile" nu (aH mg 4 (rO d)))(b:aG P w K mg base 9 "_law_fresh" nq (aH mg 2 (rG 8)))(dd:Nat)(s:dd<=4):aG P w K mg base 10 "_law_some" nv (aH mg 3 (rR dd)):=by
 have a:=(FM (dd+1)).mono (show dd+1+4<=9 by omega);refine eT T ED λo hR hx O nd=>⟨_,(aZ (dS 3 nd (dL a o hx (af (vr 0) (af (vr 1) (af (dL j o hx (af (vr 0) (af (vr 1) (af (fy (af (fy (af bJ av)) (af (fy (af bJ (af bJ av))) (af (fy (af bJ (af bJ (af bJ (af bJ av))))) av)))) av)))) (af (vr 2) av))))))
  (aU (aY (zy (dJ O (dL f o hx (af (vr 0) (af (vr 1) (af ay av)))) ay) (vr 3) (dL b o hx (af (vr 3) (af (fy av) av))))))),λds A R h hl=>?_⟩
 obtain⟨ns,t,n,rfl,H,hn,q⟩:=h;obtain⟨Q,u,S⟩:=id H;have l0:=iP u;have U:=yK s;have V:(1:Nat)<=sizeLine:=by decide
 have W:(2:Nat)<=sizeLine:=by decide
 have X:(3:Nat)<=sizeLine:=by decide
 have s4:(4:Nat)<=sizeLine:=by decide
 refine⟨V,W,s4,X,rfl,ns,t,_,_,n,rfl,?_,dU,by simp,((((H.gr Gr.push).gr Gr.push).gr Gr.push).gr Gr.push),by omega,λx I hx p t1=>?_⟩
 .simp;omega
 have g:Gr A (A++[C.lst [D.str "a"]]++[C.lst [D.str "a",D.str "b"]]++[C.lst [D.str "x",D.str "b",D.str "kk",D.str "c"]]++[C.lst [D.ref A.length,D.ref (A++[C.lst [D.str "a"]]).length,D.ref (A++[C.lst [D.str "a"]]++[C.lst [D.str "a",D.str "b"]]).length]]):=((Gr.push.trans Gr.push).trans Gr.push).trans Gr.push;have e1:(A++[C.lst [D.str "a"]]).length=A.length+1:=by simp
 have e2:(A++[C.lst [D.str "a"]]++[C.lst [D.str "a",D.str "b"]]).length=A.length+2:=by simp
 obtain⟨r,k,rfl,v,h1,y,z⟩:∃(r:Nat) (k:List Str),x=.ref r/\r≠t/\I[r]?=some (.lst (k.map D.str))/\k≠[]/\∀x∈k,Nm x:=by
  rcases aR.mp hx with e|hx
  .exact⟨_,["a"],e,by omega,p _ _ (by omega) (getElem?_push (getElem?_push (getElem?_push dU))),by simp,CF⟩
  rcases aR.mp hx with e|hx
  .exact⟨_,["a","b"],e,by omega,p _ _ (by omega) (getElem?_push (getElem?_push dU)),by simp,CG⟩
  .exact⟨_,["x","b","kk","c"],bF.mp hx,by omega,p _ _ (by omega) (getElem?_push dU),by simp,CH⟩
 have B:bG t A I:=g.but.trans p;refine⟨rfl,ns,t,r,k,n+1,show [D.fl ns,D.ref t,D.ref r,D.int (dd:Nat)]=_ by rw[show(((dd+1:Nat):Int) - 1)=(dd:Nat) by omega],by omega,v,h1,y,z,t1,by omega,λm A2 J dm _ L=>?_⟩;refine⟨rfl,ns,t,2,n+1+cst (dd+1),rfl,L.tw,by omega,by decide,λi M _ _ Y t3=>?_⟩;have E:Dr t A M n 200:=⟨(B.trans L.but).trans Y,t3.mono (by omega)⟩;refine cD (λc=>q m M J (by omega) E) (λc=>⟨ck _,rfl,m,_,0,rfl,J,by omega,by decide,⟨[],dU,aC _⟩,by decide,λZ A4 F Gn N=>?_⟩);refine q Z A4 F (by omega) ?_;obtain⟨G,l,Gw⟩:=t3;have l3:=iP l;refine⟨λq c hq h=>N.but q c ?_ (getElem?_push (E.but q c hq h)),?_⟩
 .have:=iP (E.but q c hq h)
  omega
 .exact⟨G,N.but t _ (by omega) (getElem?_push l),by omega⟩
end My
namespace L2
theorem f_.CV{P:Program}{w:World}{K:Frag}{mg:aq}{base:Heap}{x:Str}{st:Stmt}{N ps:List Str}{k:Nat}{sp:Sp}{f:Addr}{fd:FuncData}(F:f_ K x x st f fd)(S:bE N ps (aI st))(len:∀vs H Q E,sp vs H Q E->vs.length=ps.length)
  (b:∀(f:Addr) (a:Value) (A:Around) (outer:List Env) (s:Shared) (H:Hp) (vs:List V) (Q:VK) (E:XK),bQ k (A.deeper (envOfC x (aI st) s.heap.objs.size f a))->sp vs H Q E->
   ∃t,bY (bx (aQ P w) P w K mg base N x (aI st) f a A outer s H E) (dQ st) t/\t {nx:=λ_ H'=>Q .aJ H',rt:=Q} (start N vs) H):cQ P w K mg base (aQ P w) (k+1) f fd ps sp:=by
 obtain⟨h,i,kV,doc,pm,an,a,ct,e,rfl,lk,c⟩:=F.ex;exact tP lk c S len λA outer s H vs Q E g d=>b f a A outer s H vs Q E g d
end L2
namespace DP
open L2 MA
theorem AB{P:Program}{w:World}{K:Frag}{mg:aq}{base:Heap}{x:Str}{st:Stmt}{Nm ps:List Str}{k n:Nat}{S:Ct}{y:Addr}{fd:FuncData}(T:f_ K x x st y fd)(Sc:bE Nm ps (aI st))(hn:ps.length=n)(V:ps.length<=Nm.length)
  (j:∀(N:En) (RE:DX) (f:Addr) (g:Value) (B:Around) (outer:List Env) (s:Shared) (H:Hp) (E:XK),bQ k (bx (aQ P w) P w K mg base Nm x (aI st) f g B outer s H E).A->
   Raises (bx (aQ P w) P w K mg base Nm x (aI st) f g B outer s H E) (EL mg N RE)->Passes (aQ P w) (bx (aQ P w) P w K mg base Nm x (aI st) f g B outer s H E) (EL mg N RE)->
   ∀ds A R,S ds A R RE->ds.length=n->∃m,bY (bx (aQ P w) P w K mg base Nm x (aI st) f g B outer s H E) (dQ st) (cj mg N m)/\m {nx:=λ_ A'=>R .aJ A',rt:=R} (gB (Nm.length - n) ds) A):cQ P w K mg base (aQ P w) (k+1) y fd ps (aH mg n S):=by
 refine T.CV Sc (λvs H Q E h=> ?_) λf g A outer s H vs Q E F h=> ?_
 .obtain⟨A,ι,ds,R,RE,t,_,o,_⟩:=h
  rw[<-ak.length o,t,hn]
 .obtain⟨p,l,ds,R,RE,t,ra,o,G,kq,J⟩:=h
  have D:∀C a H',EL mg ⟨p,l,H⟩ RE C a H'->E C none H':=λC a H' z=>by
   obtain⟨c,A',ι',⟨b,rfl,hc⟩,ex,r,q⟩:=z
   exact J c A' ι' H' b q hc ex r
  obtain⟨m,L,M⟩:=j ⟨p,l,H⟩ RE f g A outer s H E F
   (λpins σ H1 u e h' C args I O z=>vU pins σ H1 u e h' C args I O (D _ _ _ z))
   (λpins σ H1 u e s' I z=>vq pins σ H1 u e s' I (by
    obtain⟨a,C,H',h1,h2,h3⟩:=z
    exact⟨a,C,H',h1,h2,D _ _ _ h3⟩)) ds p R G t
  have U:=ak.length o
  refine⟨_,L,p,l,_,_,⟨ra,⟨?_,λi d q=> ?_⟩,ra.refl⟩,M,⟨λτ A' ι' σ H' q e r _=>kq _ A' ι' H' _ q e r rfl,kq,λ_ _ _ _ _ q _ _ _=>q.elim,λ_ _ _ _ _ q _ _ _=>q.elim⟩⟩
  .simp[gB,L2.start]
   omega
  .obtain⟨v,h1,h2⟩:=ak.get o (qa ds _ i d q)
   refine⟨v,?_,h2⟩
   have hi:=(b6.mp h1).1
   unfold L2.start
   rw[e9 (by simpa using hi),bD,h1]
   rfl
def rL:Ct:=λds A R _=>∃ns,ds=[.fl ns]/\∀A',R (.bl true) A'
def jB:Sp:=λvs H Q _=>∃(a:Addr) (o:Obj) (ns:List Int),vs=[.ref a]/\H a=some (.bR o (.lst (ns.map V.int)))/\∀H',Q (.bl true) H'
theorem E5{mg:aq}{vs:List V}{H:Hp}{Q:VK}{E:XK}(h:jB vs H Q E):aH mg 1 rL vs H Q E:=by
 obtain⟨a,o,ns,rfl,h,q⟩:=h;refine⟨[],λ_=>a,[.fl ns],λv _=>v=.bl true,λ_ _=>False,rfl,⟨λr c h=>by simp at h,λr s b=>by simp at b⟩,⟨_,[],rfl,⟨a,o,rfl,h⟩,rfl⟩,⟨ns,rfl,λ_=>rfl⟩,λv A' ι' H' u e _ _ r=>?_,λ_ _ _ _ _ z=>z.elim⟩;subst e;cases r;exact q _
def iQ(o:Obj):Bool:=match o.cls with
 |.type t=> !(decide (t="list"))
 |_=>true
theorem CI{K:Frag}(h:K.all (λp=>iQ p.2)=true){a:Addr}{o:Obj}(e:K.lookup a=some o):iQ o=true:=by
 induction K with
 |nil=>cases e
 |cons p r b=>
  have h':iQ p.2=true/\List.all r (λp=>iQ p.2)=true:=by simpa using h
  rw[List.lookup] at e;split at e
  .cases e
   exact h'.1
  .exact b h'.2 e
theorem AD{K:Frag}(b:K.all (λp=>iQ p.2)=true){H:Hp}{a:Addr}{ns:List Int}(d:lT H)(f:aX K H a (ns.map V.int)):jB [.ref a] H (λv _=>v=.bl true) λ_ _ _=>False:=by
 rcases f with (e|⟨o,e⟩)|⟨o,its,n,e,c,_⟩
 .rcases d a with z|⟨o,xs,z⟩
  .rw[z] at e;cases e
  .rw[z] at e;cases e
 .exact⟨a,o,ns,rfl,e,λ_=>rfl⟩
 .have:=CI b e
  unfold iQ at this;rw[c] at this;simp at this
theorem gw:∀m:M,dI (enc m)=true
 |.wt n=>by simp[enc,dI,gY]
 |.ah l r a b=>by simp[enc,dI,gY,gw a,gw b]
theorem Eh:canLay0 (.str "rod")=true:=by decide+kernel
theorem Gb:canLay0 (.str "weight")=true:=by decide+kernel
theorem gq:∀m:M,(∀n∈m.names,Nm n)->(toQ (enc m)).canLay0=true
 |.wt n,h=>by
  have h1:=(h n (by simp[bI.names])).ok;have h2:=Gb;simp only[enc,toQ,b_];simp only[canLay0,canLayAll0] at h1 h2 ⊢;simp[h1,h2]
 |.ah l r a b,h=>by
  have h1:=gq a λn hn=>h n (by simp[bI.names,hn]);have h2:=gq b λn hn=>h n (by simp[bI.names,hn]);have h3:=Eh;simp only[enc,toQ,b_];simp only[canLay0] at h3;simp[canLay0,canLayAll0,h1,h2,h3]
theorem kg:∀m:M,(toQ (enc m)).depth<=m.deep+1
 |.wt n=>by
  simp only[enc,toQ,b_];simp[PyData.depth,depthAll]
 |.ah l r a b=>by
  have h1:=kg a;have h2:=kg b;simp only[enc,toQ,b_];simp[PyData.depth,depthAll,bI.deep];omega
theorem nQ{A:Ar}:∀m:M,dM A (enc m)=toQ (enc m)
 |.wt n=>rfl
 |.ah l r a b=>rfl
theorem ni{A:Ar}:∀m:M,jy A (enc m)=dI (enc m)
 |.wt n=>rfl
 |.ah l r a b=>rfl
def gx:M->Str->List (Str×M)
 |.wt _,_=>[]
 |.ah l r a b,w=>(w,.ah l r a b)::(gx a (w++"l")++gx b (w++"r"))
theorem qE:∀(m:M) (w:Str),(gx m w).length+1<=2 ^ m.deep
 |.wt n,w=>by simp[gx,bI.deep]
 |.ah l r a b,w=>by
  have h1:=qE a (w++"l");have h2:=qE b (w++"r");have c:2 ^ a.deep<=2 ^ max a.deep b.deep:=jH (by decide) (by omega);have d:2 ^ b.deep<=2 ^ max a.deep b.deep:=jH (by decide) (by omega);show(gx a (w++"l")++gx b (w++"r")).length+1+1<=2 ^ (max a.deep b.deep+1);rw[pow_succ,bV];omega
abbrev rU:Ct:=SV λds v=>∃l r a b,ds=[enc (.ah l r a b)]/\v=enc (.ah r l b a)
end DP
namespace My
open L2 DP MA
theorem Az(T:TopD K mg "turned_rod" wI nH):aG P w K mg base 1 "turned_rod" nH (aH mg 1 rU):=by
 refine eT T EM λd e f c nd=>⟨_,(aU (aY (fN (af bJ (af (dX c (vr 0) ay) (af (dX c (vr 0) ay) (af (dX c (vr 0) ay) (af (dX c (vr 0) ay) av)))))))),λds A R h g=>?_⟩;obtain⟨v,⟨l,r,a,b,rfl,rfl⟩,q⟩:=h;exact⟨show 5<=sizeLine by decide,q _ Gr.refl⟩
end My
namespace DP
open L2 MA
def pD:∀x y:M,Decidable (x=y)
 |.wt a,.wt b=>if h:a=b then .isTrue (by rw[h]) else .isFalse λz=>h (by injection z)
 |.wt _,.ah _ _ _ _=>.isFalse λz=>by cases z
 |.ah _ _ _ _,.wt _=>.isFalse λz=>by cases z
 |.ah l r a b,.ah l' r' a' b'=>
  if h1:l=l' then if h2:r=r' then match pD a a',pD b b' with
   |.isTrue h3,.isTrue h4=>.isTrue (by rw[h1,h2,h3,h4])
   |.isFalse h3,_=>.isFalse λz=>h3 (by injection z)
   |_,.isFalse h4=>.isFalse λz=>h4 (by injection z)
  else .isFalse λz=>h2 (by injection z) else .isFalse λz=>h1 (by injection z)
instance:DecidableEq M:=pD
def aN:M->M->Bool
 |.wt a,.wt b=>decide (a.cps.toList<b.cps.toList)
 |.wt _,.ah _ _ _ _=>false
 |.ah _ _ _ _,.wt _=>true
 |.ah l r a b,.ah l' r' a' b'=>if l=l' then (if r=r' then (if a=a' then (if b=b' then false else aN b b') else aN a a') else decide (r<r')) else decide (l<l')
theorem m_:∀m:M,cJ (toQ (enc m))=true
 |.wt n=>by simp[enc,toQ,b_,cJ,fC]
 |.ah l r a b=>by simp[enc,toQ,b_,cJ,fC,m_ a,m_ b]
theorem toQ_inj:∀x y:M,toQ (enc x)=toQ (enc y)->x=y
 |.wt n,.wt m,h=>by simp[enc,toQ,b_] at h;rw[h]
 |.wt n,.ah _ _ _ _,h=>by simp[enc,toQ,b_] at h
 |.ah _ _ _ _,.wt n,h=>by simp[enc,toQ,b_] at h
 |.ah l r a b,.ah f r' c d,h=>by
  simp only[enc,toQ,b_,PyData.tuple.injEq,List.cons.injEq,PyData.int.injEq,true_and,and_true] at h;obtain⟨h1,h2,h3,e⟩:=h;rw[h1,h2,toQ_inj a c h3,toQ_inj b d e]
theorem mz(x y:M):PyData.eqv (toQ (enc x)) (toQ (enc y))=decide (x=y):=by
 rw[iV,tG _ _ (m_ x) (m_ y),decide_eq_true_eq];exact⟨toQ_inj x y,λh=>by rw[h]⟩
theorem yJ{a b:Str}(h:a.cps.toList=b.cps.toList):a=b:=by
 obtain⟨⟨la⟩⟩:=a;obtain⟨⟨lb⟩⟩:=b;have:la=lb:=h;rw[this]
theorem Gg:decide (("weight":Str).cps.toList<("rod":Str).cps.toList)=false:=by decide+kernel
theorem rw_lt:decide (("rod":Str).cps.toList<("weight":Str).cps.toList)=true:=by decide+kernel
theorem z9(i j:Int):PyData.eqv (.int i) (.int j)=decide (i=j):=by
 rw[iV];simp[PyData.eqv]
theorem mC(i j:Str):PyData.eqv (.str i) (.str j)=decide (i=j):=by
 rw[iV];simp[PyData.eqv]
theorem mX:∀x y:M,ltQ (toQ (enc x)) (toQ (enc y))=some (aN x y)
 |.wt n,.wt m=>by
  simp only[enc,toQ,b_,ltQ,dW,mC,decide_true];by_cases h:n=m
  .subst h
   simp[aN]
  .simp[h,aN]
 |.wt n,.ah _ _ _ _=>by
  simp only[enc,toQ,b_,ltQ,dW,mC];rw[eG (show ¬("weight":Str)="rod" by decide+kernel)];show some _=_;rw[Gg];rfl
 |.ah _ _ _ _,.wt n=>by
  simp only[enc,toQ,b_,ltQ,dW,mC];rw[eG (show ¬("rod":Str)="weight" by decide+kernel)];show some _=_;rw[rw_lt];rfl
 |.ah l r a b,.ah f r' c d=>by
  have g:=mX a c;have i:=mX b d;simp only[enc,toQ,b_,ltQ,dW,mC,z9,mz,decide_true,g,i,aN];by_cases h1:l=f
  .by_cases h2:r=r'
   .by_cases h3:a=c
    .by_cases e:b=d
     .simp[h1,h2,h3,e]
     .simp[h1,h2,h3,e]
    .simp[h1,h2,h3]
   .simp[h1,h2]
  .simp[h1]
theorem kN:∀x:M,aN x x=false
 |.wt n=>by simp[aN]
 |.ah l r a b=>by simp[aN]
theorem iO:∀x y:M,aN x y=true->aN y x=false
 |.wt n,.wt m,h=>by
  simp only[aN,decide_eq_true_eq,decide_eq_false_iff_not] at h ⊢;exact List.lt_asymm h
 |.wt n,.ah _ _ _ _,h=>by simp[aN] at h
 |.ah _ _ _ _,.wt n,h=>rfl
 |.ah l r a b,.ah f r' d e,h=>by
  have g:=iO a d;have i:=iO b e;simp only[aN] at h ⊢;by_cases h1:l=f
  .subst h1
   by_cases h2:r=r'
   .subst h2
    by_cases h3:a=d
    .subst h3
     by_cases c:b=e
     .subst c;simp
     .simp[c,Ne.symm c] at h ⊢;exact i h
    .simp[h3,Ne.symm h3] at h ⊢;exact g h
   .simp[h2,Ne.symm h2] at h ⊢;omega
  .simp[h1,Ne.symm h1] at h ⊢;omega
theorem jx:∀x y:M,aN x y=false->aN y x=false->x=y
 |.wt n,.wt m,h,h'=>by
  simp only[aN,decide_eq_false_iff_not] at h h';rw[yJ (List.le_antisymm (not_lt.mp h') (not_lt.mp h))]
 |.wt n,.ah _ _ _ _,h,h'=>by simp[aN] at h'
 |.ah _ _ _ _,.wt n,h,_=>by simp[aN] at h
 |.ah l r a b,.ah f r' d e,h,h'=>by
  have g:=jx a d;have i:=jx b e;simp only[aN] at h h';by_cases h1:l=f
  .subst h1
   by_cases h2:r=r'
   .subst h2
    by_cases h3:a=d
    .subst h3
     by_cases c:b=e
     .rw[c]
     .simp[c,Ne.symm c] at h h';rw[i h h']
    .simp[h3,Ne.symm h3] at h h';exact absurd (g h h') h3
   .simp[h2,Ne.symm h2] at h h';omega
  .simp[h1,Ne.symm h1] at h h';omega
def bX(x y:M):M:=if aN y x=true then y else x
theorem uY(x y:M):bX x y=bX y x:=by
 unfold bX;cases h:aN y x with
 |true=>rw[iO y x h];simp
 |false=>
  cases h':aN x y with
  |true=>simp
  |false=>simp[jx x y h' h]
theorem gu(x y:M):bX x y=x\/bX x y=y:=by
 unfold bX;split
 .exact .inr rfl
 .exact .inl rfl
def lst:M->M
 |.wt n=>.wt n
 |.ah l r a b=>bX (.ah l r (lst a) (lst b)) (.ah r l (lst b) (lst a))
def aK:M->Nat
 |.wt _=>1
 |.ah l r a b=>if l=r/\lst a=lst b then aK a*aK b else 2*(aK a*aK b)
theorem uS(l r:Int)(a b:M):lst (.ah r l b a)=lst (.ah l r a b):=uY _ _
theorem FU(l r:Int)(a b:M):aK (.ah r l b a)=aK (.ah l r a b):=by
 unfold aK;by_cases h:l=r/\lst a=lst b
 .rw[ai h,ai ⟨h.1.symm,h.2.symm⟩,Nat.mul_comm]
 .rw[aj h,aj (λz=>h ⟨z.1.symm,z.2.symm⟩),Nat.mul_comm (aK b)]
theorem iN:∀m:M,(lst m).names.Perm m.names
 |.wt n=>.refl _
 |.ah l r a b=>by
  show(bX (.ah l r (lst a) (lst b)) (.ah r l (lst b) (lst a))).names.Perm (a.names++b.names);rcases gu (.ah l r (lst a) (lst b)) (.ah r l (lst b) (lst a)) with h|h
  .rw[h];exact(iN a).append (iN b)
  .rw[h];exact((iN b).append (iN a)).trans gD
theorem gX:∀m:M,(lst m).deep=m.deep
 |.wt n=>rfl
 |.ah l r a b=>by
  show(bX (.ah l r (lst a) (lst b)) (.ah r l (lst b) (lst a))).deep=max a.deep b.deep+1;have c:=gX a;have d:=gX b;rcases gu (.ah l r (lst a) (lst b)) (.ah r l (lst b) (lst a)) with h|h
  .rw[h];show max (lst a).deep (lst b).deep+1=_;rw[c,d]
  .rw[h];show max (lst b).deep (lst a).deep+1=_;rw[c,d];omega
theorem kI:∀m:M,m.arms->(lst m).arms
 |.wt n,h=>h
 |.ah l r a b,h=>by
  obtain⟨e,f,g,i,c,d⟩:=h;show(bX (.ah l r (lst a) (lst b)) (.ah r l (lst b) (lst a))).arms;rcases gu (.ah l r (lst a) (lst b)) (.ah r l (lst b) (lst a)) with h|h
  .rw[h];exact⟨e,f,g,i,kI a c,kI b d⟩
  .rw[h];exact⟨g,i,e,f,kI b d,kI a c⟩
theorem kK{m:M}(h:Wf m):Wf (lst m):=⟨kI m h.arms,λn hn=>h.nm n ((iN m).mem_iff.mp hn)⟩
def gv:M->Nat
 |.wt _=>0
 |.ah _ _ a b=>gv a+gv b+1
theorem qF:∀(m:M) (w:Str),(gx m w).length=gv m
 |.wt n,w=>rfl
 |.ah l r a b,w=>by
  show((w,bI.ah l r a b)::(gx a (w++"l")++gx b (w++"r"))).length=_;rw[e_,bV,qF a,qF b];rfl
theorem nS:∀m:M,aK m<=2 ^ gv m
 |.wt n=>by simp[aK,gv]
 |.ah l r a b=>by
  have h:=Nat.mul_le_mul (nS a) (nS b);rw[<-Nat.pow_add] at h;show(if l=r/\lst a=lst b then aK a*aK b else 2*(aK a*aK b))<=2 ^ (gv a+gv b+1);rw[pow_succ];split<;>omega
theorem Ck{x y:M}{A:Ar}{R:DK}(a:∀n∈x.names,Nm n)(b:∀n∈y.names,Nm n)(hd:x.deep<=50)(k:R (enc (bX x y)) A):m5 (enc x) (enc y) A R:=by
 unfold m5;have:=kg x;refine⟨gw x,gw y,gq x a,gq y b,by omega,aN y x,mX y x,?_⟩;unfold bX at k;cases h:aN y x with
 |true=>rw[h] at k;exact k
 |false=>rw[h] at k;exact k
theorem z7{x y:M}{A:Ar}{R:DK}(a:∀n∈x.names,Nm n)(b:∀n∈y.names,Nm n)(hd:x.deep<=60)(k:R (.bl (decide (x=y))) A):fM false (enc x) (enc y) A R:=by
 unfold fM;rw[nQ,nQ,ni,ni,gw,gw];have:=kg x;refine⟨rfl,rfl,gq x a,gq y b,by omega,?_⟩;rw[mz];exact k
theorem Cw{x y:M}{A:Ar}{R:DK}(a:∀n∈x.names,Nm n)(b:∀n∈y.names,Nm n)(hd:x.deep<=60)(k:R (.bl (!decide (x=y))) A):fM true (enc x) (enc y) A R:=by
 unfold fM;rw[nQ,nQ,ni,ni,gw,gw];have:=kg x;refine⟨rfl,rfl,gq x a,gq y b,by omega,?_⟩;rw[mz];exact k
theorem tF{x y:M}{A:Ar}{R:DK}(a:∀n∈x.names,Nm n)(b:∀n∈y.names,Nm n)(hd:x.deep<=60)(k:R (.bl (decide (x=y))) A):ko (enc x) (enc y) A R:=by
 have h:=z7 a b hd k;cases x<;>cases y<;>exact h
theorem Cv{x y:M}{A:Ar}{R:DK}(a:∀n∈x.names,Nm n)(b:∀n∈y.names,Nm n)(hd:x.deep<=60)(k:R (.bl (!decide (x=y))) A):m7 (enc x) (enc y) A R:=by
 have h:=Cw a b hd k;cases x<;>cases y<;>exact h
def oQ(d:Nat):Ct:=SV λds v=>∃m,ds=[enc m]/\Wf m/\m.deep<d/\d<=8/\v=enc (lst m)
def rS(d:Nat):Ct:=SV λds v=>∃m,ds=[enc m]/\Wf m/\m.deep<d/\d<=6/\v=.int (aK m)
def rM:Ct:=SV λds v=>∃m,ds=[enc m]/\Wf m/\m.deep<=5/\v=enc (lst m)
def rH:Ct:=SV λds v=>∃m,ds=[enc m]/\Wf m/\m.deep<=5/\v=.int (aK m)
theorem vc:∀m:M,gv m+1<=2 ^ m.deep:=λm=>by
 have:=qE m "";rwa [qF] at this
theorem xj{m:M}(h:m.deep<=5):aK m<=2 ^ 31:=by
 have h1:=vc m;have h2:2 ^ m.deep<=2 ^ 5:=jH (by decide) h;exact cO (nS m) (jH (by decide) (by omega))
end DP
namespace My
open L2 DP MA
theorem Ao(T:TopD K mg "least_below" wF kX)(g:mg "min"=none)(e:aG P w K mg base 1 "turned_rod" nH (aH mg 1 rU)):∀d,aG P w K mg base (d+1) "least_below" kX (aH mg 1 (oQ d)):=by
 intro d;induction d with
 |zero=>
  refine iI T λds A R RE h=>?_;obtain⟨v,⟨m,_,_,h,_⟩,_⟩:=h;omega
 |succ d c=>
  refine fP T wO rfl (by decide) λN RE f p B outer s H E j u o ds A R h z=>?_;have i:=j.units;have nd:=wO.nd;refine⟨_,(aZ (cS (dJ i (dX i (vr 0) ay) bJ) (aU (aY (vr 0))) cT)
  (aZ (dS 1 nd (fN (af bJ (af (dX i (vr 0) ay) (af (dX i (vr 0) ay) (af (dL c j o (af (dX i (vr 0) ay) av)) (af (dL c j o (af (dX i (vr 0) ay) av)) av)))))))
  (aU (aY (eu (yt rfl i) zp g boot_min (af (vr 1) (af (dL e j o (af (vr 1) av)) av))))))),?_⟩
  obtain⟨v,⟨m,rfl,k,hd,C,rfl⟩,q⟩:=h;cases m with
  |wt n=>exact q _ Gr.refl
  |ah l r a b=>
   have t:max a.deep b.deep+1<d+1:=hd;have wl:=kK k.left;have wr:=kK k.right;refine⟨rfl,_,⟨a,rfl,k.left,by omega,by omega,rfl⟩,λD g1=>?_⟩;refine⟨rfl,_,⟨b,rfl,k.right,by omega,by omega,rfl⟩,λF g2=>?_⟩;refine⟨show 5<=sizeLine by decide,?_⟩;refine⟨rfl,_,⟨l,r,lst a,lst b,rfl,rfl⟩,λG g3=>?_⟩;have I:=gX a;have db:=gX b;refine Ck (x:=.ah l r (lst a) (lst b)) (y:=.ah r l (lst b) (lst a)) ?_ ?_ ?_ (q _ ((g1.trans g2).trans g3))
   .intro n hn
    rcases aT.mp (show n∈(lst a).names++(lst b).names from hn) with h|h
    .exact wl.nm n h
    .exact wr.nm n h
   .intro n hn
    rcases aT.mp (show n∈(lst b).names++(lst a).names from hn) with h|h
    .exact wr.nm n h
    .exact wl.nm n h
   .show max (lst a).deep (lst b).deep+1<=50
    omega
theorem Ax(T:TopD K mg "turned_below" wH nG)(e:aG P w K mg base 8 "least_below" kX (aH mg 1 (oQ 7))):∀d,aG P w K mg base (d+8) "turned_below" nG (aH mg 1 (rS d)):=by
 intro d;induction d with
 |zero=>
  refine iI T λds A R RE h=>?_;obtain⟨v,⟨m,_,_,h,_⟩,_⟩:=h;omega
 |succ d c=>
  refine fP T wQ rfl (by decide) λN RE f u B outer s H E k C o ds A R h D=>?_;have i:=k.units;have nd:=wQ.nd;refine⟨_,(aZ (cS (dJ i (dX i (vr 0) ay) bJ) (aU (aY ay)) cT)
  (aZ (dS 1 nd (jk (dL c k o (af (dX i (vr 0) ay) av)) (dL c k o (af (dX i (vr 0) ay) av))))
  (aZ (cS (PW.pt (zT (dJ i (dX i (vr 0) ay) (dX i (vr 0) ay)) (zU (dJ i (dL e k o (af (dX i (vr 0) ay) av)) (dL e k o (af (dX i (vr 0) ay) av)))))) (aU (aY (vr 1))) cT)
  (aU (aY (jk ay (vr 1))))))),?_⟩
  obtain⟨v,⟨m,rfl,j,hd,F,rfl⟩,q⟩:=h;cases m with
  |wt n=>exact q _ Gr.refl
  |ah l r a b=>
   have x:max a.deep b.deep+1<d+1:=hd;have ta:=xj (m:=a) (by omega);have tb:=xj (m:=b) (by omega);have wl:=kK j.left;have wr:=kK j.right;have G:=gX a;have q:∀A',Gr A A'->R (.int ((if l=r/\lst a=lst b then aK a*aK b else 2*(aK a*aK b):Nat):Int)) A':=q;refine⟨rfl,_,⟨a,rfl,j.left,by omega,by omega,rfl⟩,λI g1=>?_⟩;refine⟨rfl,_,⟨b,rfl,j.right,by omega,by omega,rfl⟩,λJ g2=>?_⟩;refine⟨.inl ⟨by omega,by omega⟩,?_⟩;have fin2:∀A',Gr A A'->¬(l=r/\lst a=lst b)->(jR 2 ((aK a:Int)*(aK b:Int)))/\R (.int (2*((aK a:Int)*(aK b:Int)))) A':=λA' g h=>by
    have:=q A' g;rw[aj h] at this;push_cast at this;exact⟨.inl ⟨by decide,by decide⟩,this⟩
   refine cD (λp=>?_) (λp=>?_)
   .refine⟨rfl,_,⟨a,rfl,j.left,by omega,by omega,rfl⟩,λL g3=>?_⟩
    refine⟨rfl,_,⟨b,rfl,j.right,by omega,by omega,rfl⟩,λM y=>?_⟩;refine tF wl.nm wr.nm (by omega) ?_;have g:=((g1.trans g2).trans g3).trans y;refine cD (λt=>?_) (λt=>?_)
    .have:=q _ g
     rw[ai ⟨p,t⟩] at this;push_cast at this;exact this
    .exact fin2 _ g (λz=>t z.2)
   .exact fin2 _ (g1.trans g2) (λz=>p z.1)
theorem Aq(T:TopD K mg "least_turned" wG nF)(a:aG P w K mg base 9 "check_mobile" kW (aH mg 1 oO))(b:aG P w K mg base 8 "least_below" kX (aH mg 1 (oQ 7))):aG P w K mg base 10 "least_turned" nF (aH mg 1 rM):=by
 refine eT T EK λc f d g nd=>⟨_,(aZ (kj (dL a c d (af (vr 0) av)))
  (aU (aY (dL b c d (af (vr 0) av))))),λds A R h i=>?_⟩
 obtain⟨v,⟨m,rfl,e,hd,rfl⟩,q⟩:=h;refine⟨rfl,_,⟨m,rfl,e,hd,rfl⟩,λj g1=>?_⟩;exact⟨rfl,_,⟨m,rfl,e,by omega,by omega,rfl⟩,λk g2=>q _ (g1.trans g2)⟩
theorem Ai(T:TopD K mg "how_many_turned" wz nA)(a:aG P w K mg base 9 "check_mobile" kW (aH mg 1 oO))(b:aG P w K mg base 14 "turned_below" nG (aH mg 1 (rS 6))):aG P w K mg base 15 "how_many_turned" nA (aH mg 1 rH):=by
 refine eT T EF λc f d g nd=>⟨_,(aZ (kj (dL a c d (af (vr 0) av)))
  (aU (aY (dL b c d (af (vr 0) av))))),λds A R h i=>?_⟩
 obtain⟨v,⟨m,rfl,e,hd,rfl⟩,q⟩:=h;refine⟨rfl,_,⟨m,rfl,e,hd,rfl⟩,λj g1=>?_⟩;exact⟨rfl,_,⟨m,rfl,e,by omega,by omega,rfl⟩,λk g2=>q _ (g1.trans g2)⟩
end My
namespace DP
open L2 MA
theorem kJ:∀m:M,lst (lst m)=lst m
 |.wt n=>rfl
 |.ah l r a b=>by
  have c:=kJ a;have d:=kJ b;show lst (bX (.ah l r (lst a) (lst b)) (.ah r l (lst b) (lst a)))=bX (.ah l r (lst a) (lst b)) (.ah r l (lst b) (lst a));rcases gu (.ah l r (lst a) (lst b)) (.ah r l (lst b) (lst a)) with h|h
  .conv=>lhs;rw[h]
   show bX (.ah l r (lst (lst a)) (lst (lst b))) (.ah r l (lst (lst b)) (lst (lst a)))=_;rw[c,d]
  .conv=>lhs;rw[h]
   show bX (.ah r l (lst (lst b)) (lst (lst a))) (.ah l r (lst (lst a)) (lst (lst b)))=_;rw[c,d,uY]
theorem nU(l r:Int)(a b:M):aK (.ah l r a b)=if l=r/\lst a=lst b then aK a*aK b else 2*(aK a*aK b):=rfl
theorem nT:∀m:M,aK (lst m)=aK m
 |.wt n=>rfl
 |.ah l r a b=>by
  have e:aK (.ah l r (lst a) (lst b))=aK (.ah l r a b):=by rw[nU,nU,kJ,kJ,nT a,nT b]
  show aK (bX (.ah l r (lst a) (lst b)) (.ah r l (lst b) (lst a)))=_;rcases gu (.ah l r (lst a) (lst b)) (.ah r l (lst b) (lst a)) with h|h
  .rw[h,e]
  .rw[h,FU,e]
theorem kO:∀x y z:M,aN x y=true->aN y z=true->aN x z=true
 |.wt n,.wt m,.wt k,h,h'=>by
  simp only[aN,decide_eq_true_eq] at h h' ⊢;exact List.lt_trans h h'
 |.wt n,.ah _ _ _ _,_,h,_=>by simp[aN] at h
 |.wt n,.wt m,.ah _ _ _ _,_,h'=>by simp[aN] at h'
 |.ah _ _ _ _,.wt m,.ah _ _ _ _,_,h'=>by simp[aN] at h'
 |.ah _ _ _ _,_,.wt k,_,_=>rfl
 |.ah l r a b,.ah i r' c d,.ah f g a2 e,h,h'=>by
  have p:=kO a c a2;have q:=kO b d e;have s:=iO a a2;have id:=iO b e;have sa:=iO a c;have sb:=iO b d;simp only[aN] at h h' ⊢;by_cases h1:l=i
  .subst h1
   by_cases k1:l=f
   .subst k1
    by_cases h2:r=r'
    .subst h2
     by_cases k2:r=g
     .subst k2
      by_cases h3:a=c
      .subst h3
       by_cases k3:a=a2
       .subst k3
        by_cases j:b=d
        .subst j;simp at h
        .by_cases o:d=e
         .subst o;simp at h'
         .simp[j] at h
          simp[o] at h';have:=q h h';by_cases k5:b=e
          .subst k5;rw[kN] at this;cases this
          .simp[k5,this]
       .simp[k3] at h' ⊢;exact h'
      .by_cases k3:c=a2
       .subst k3;simp[h3] at h ⊢;exact h
       .simp[h3] at h
        simp[k3] at h';have:=p h h';by_cases k5:a=a2
        .subst k5;rw[kN] at this;cases this
        .simp[k5,this]
     .simp[k2] at h' ⊢;exact h'
    .by_cases k2:r'=g
     .subst k2;simp[h2] at h ⊢;exact h
     .simp[h2] at h
      simp[k2] at h';have k5:¬r=g:=by omega
      simp[k5];omega
   .simp[k1] at h' ⊢;exact h'
  .by_cases k1:i=f
   .subst k1;simp[h1] at h ⊢;exact h
   .simp[h1] at h
    simp[k1] at h';have k5:¬l=f:=by omega
    simp[k5];omega
theorem qe:∀m:M,aN m (lst m)=false
 |.wt n=>kN _
 |.ah l r a b=>by
  have d:=qe a;have f:=qe b;have c:aN (.ah l r a b) (.ah l r (lst a) (lst b))=false:=by
   simp only[aN,eH];split
   .split
    .rfl
    .exact f
   .exact d
  show aN (.ah l r a b) (bX (.ah l r (lst a) (lst b)) (.ah r l (lst b) (lst a)))=false;unfold bX;split
  .rename_i h
   cases e:aN (.ah l r a b) (.ah r l (lst b) (lst a)) with
   |false=>rfl
   |true=>rw[kO _ _ _ e h] at c;cases c
  .exact c
def rT(d:Nat):Ct:=λds A R _=>∃ns t m n,ds=[.fl ns,.ref t,enc m]/\Wf m/\m.deep<d/\d<=6/\Tw t n A/\n+2 ^ d<=1000000/\∀o A',Wf o->lst o=lst m->Dr t A A' n (2 ^ d - 1)->R (enc o) A'
theorem sS{x y:M}(h:lst x=lst y):x.deep=y.deep:=by rw[<-gX x,h,gX]
theorem Cu{x y:M}(h:lst x=lst y)(n:Str):n∈x.names↔n∈y.names:=by rw[<-(iN x).mem_iff,h,(iN y).mem_iff]
end DP
namespace My
open L2 DP MA
theorem Ay(T:TopD K mg "_law_turned" wo ny)(o:aG P w K mg base 3 "_law_draw" iS (aH mg 3 jY)):∀d,aG P w K mg base (d+4) "_law_turned" ny (aH mg 3 (rT d)):=by
 intro d;induction d with
 |zero=>
  refine iI T λds A R RE h=>?_;obtain⟨ns,t,m,n,_,_,h,_⟩:=h;omega
 |succ d g=>
  refine fP T wM rfl (by decide) λN RE f V B outer s H E z hR G ds A R h hl=>?_;have p:=z.units;have nd:=wM.nd;refine⟨_,(aZ (cS (dJ p (dX p (vr 2) ay) bJ) (aU (aY (vr 2))) cT)
  (aZ (sZ (i:=3) (j:=4) rfl nd rfl rfl (by decide) rfl rfl (af (dL g z G (af (vr 0) (af (vr 1) (af (dX p (vr 2) ay) av)))) (af (dL g z G (af (vr 0) (af (vr 1) (af (dX p (vr 2) ay) av)))) av)) rfl)
  (aZ (cS (dJ p (dL o z G (af (vr 0) (af (vr 1) (af ay av)))) ay) (aU (aY (fN (af bJ (af (dX p (vr 2) ay) (af (dX p (vr 2) ay) (af (vr 3) (af (vr 4) av)))))))) cT)
  (aU (aY (fN (af bJ (af (dX p (vr 2) ay) (af (dX p (vr 2) ay) (af (vr 4) (af (vr 3) av))))))))))),?_⟩
  obtain⟨ns,t,m,n,rfl,C,hd,h6,L,hc,q⟩:=h;have hp:2 ^ (d+1)=2*2 ^ d:=by rw[pow_succ];omega
  have W:0<2 ^ d:=pow_pos (by decide);cases m with
  |wt k=>exact q _ _ C rfl ⟨bG.refl,L.mono (by omega)⟩
  |ah l r a b=>
   have X:max a.deep b.deep+1<d+1:=hd;obtain⟨M,O,Q,S,Y,Z⟩:=C.arms;refine⟨rfl,ns,t,a,n,rfl,C.left,by omega,by omega,L,by omega,λu A1 D e1 g1=>?_⟩;refine⟨rfl,ns,t,b,_,rfl,C.right,by omega,by omega,g1.tw,by omega,λv A2 F e2 g2=>?_⟩;refine⟨rfl,ns,t,2,_,rfl,g2.tw,by omega,by decide,λi A3 _ _ b3 t3=>?_⟩;have nm:∀x y:Int,1<=x->x<=9->1<=y->y<=9->Wf (.ah x y u v):=λx y h1 h2 h3 I=>⟨⟨h1,h2,h3,I,D.arms,F.arms⟩,λk hk=>by
    rcases aT.mp (show k∈u.names++v.names from hk) with h|h
    .exact D.nm k h
    .exact F.nm k h⟩
   have J:∀x y:Int,1<=x->x<=9->1<=y->y<=9->Wf (.ah x y v u):=λx y h1 h2 h3 I=>⟨⟨h1,h2,h3,I,F.arms,D.arms⟩,λk hk=>by
    rcases aT.mp (show k∈v.names++u.names from hk) with h|h
    .exact F.nm k h
    .exact D.nm k h⟩
   have U:Dr t A A3 n (2 ^ (d+1) - 1):=⟨(g1.but.trans g2.but).trans b3,t3.mono (by omega)⟩;have e:lst (.ah l r u v)=lst (.ah l r a b):=by simp only[lst,e1,e2]
   refine cD (λc=>?_) (λc=>?_)
   .exact⟨show 5<=sizeLine by decide,q (.ah l r u v) _ (nm l r M O Q S) e U⟩
   .exact⟨show 5<=sizeLine by decide,q (.ah r l v u) _ (J r l Q S M O) (by rw[uS,e]) U⟩
end My
namespace DP
open L2 MA
theorem qf{x:M}{n:Str}(h:lst x=.wt n):x=.wt n:=by
 cases x with
 |wt k=>exact h
 |ah l r a b=>
  exfalso;have h:bX (.ah l r (lst a) (lst b)) (.ah r l (lst b) (lst a))=.wt n:=h;rcases gu (.ah l r (lst a) (lst b)) (.ah r l (lst b) (lst a)) with e|e
  .rw[e] at h;cases h
  .rw[e] at h;cases h
theorem mW{x:M}{l r:Int}{a b:M}(h:lst x=lst (.ah l r a b)):∃i j,lst i=lst a/\lst j=lst b/\(x=.ah l r i j\/x=.ah r l j i):=by
 have h:lst x=bX (.ah l r (lst a) (lst b)) (.ah r l (lst b) (lst a)):=h;cases x with
 |wt k=>
  exfalso;have h: .wt k=bX (.ah l r (lst a) (lst b)) (.ah r l (lst b) (lst a)):=h;rcases gu (.ah l r (lst a) (lst b)) (.ah r l (lst b) (lst a)) with e|e
  .rw[e] at h;cases h
  .rw[e] at h;cases h
 |ah f r' c d=>
  have h:bX (.ah f r' (lst c) (lst d)) (.ah r' f (lst d) (lst c))=bX (.ah l r (lst a) (lst b)) (.ah r l (lst b) (lst a)):=h;rcases gu (.ah f r' (lst c) (lst d)) (.ah r' f (lst d) (lst c)) with e|e<;>rcases gu (.ah l r (lst a) (lst b)) (.ah r l (lst b) (lst a)) with e'|e';all_goals
   rw[e,e'] at h;injection h with h1 h2 h3 g;subst h1;subst h2
  .exact⟨c,d,h3,g,.inl rfl⟩
  .exact⟨d,c,g,h3,.inr rfl⟩
  .exact⟨d,c,h3,g,.inr rfl⟩
  .exact⟨c,d,g,h3,.inl rfl⟩
theorem mV{l r:Int}{a b c d:M}(f:lst c=lst a)(g:lst d=lst b):lst (.ah l r c d)=lst (.ah l r a b)/\lst (.ah r l d c)=lst (.ah l r a b):=by
 have e:lst (.ah l r c d)=lst (.ah l r a b):=by simp only[lst,f,g]
 exact⟨e,by rw[uS,e]⟩
def eV(f:M->M->M)(xs ys:List M):List M:=xs.flatMap λx=>ys.map λy=>f x y
theorem fT{f:M->M->M}{xs ys:List M}{z:M}:z∈eV f xs ys↔∃x∈xs,∃y∈ys,f x y=z:=by
 simp only[eV,List.mem_flatMap,d9]
theorem nI{f:M->M->M}{ys:List M}:∀xs:List M,(eV f xs ys).length=xs.length*ys.length
 |[]=>by simp[eV]
 |x::xs=>by
  show((ys.map λy=>f x y)++eV f xs ys).length=_;rw[bV,bA,nI xs,e_,add_mul,one_mul,Nat.add_comm]
theorem qz{f:M->M->M}{ys:List M}(a:∀x y b c,f x y=f b c->x=b/\y=c)(i:ys.Nodup):∀{xs:List M},xs.Nodup->(eV f xs ys).Nodup
 |[],_=>List.nodup_nil
 |x::xs,h=>by
  obtain⟨h1,h2⟩:=nodup_cons.mp h;show((ys.map λy=>f x y)++eV f xs ys).Nodup;refine List.nodup_append.mpr ⟨?_,qz a i h2,λz j k d e=>?_⟩
  .unfold Nodup
   rw[jG];exact i.imp λne e=>ne (a _ _ _ _ e).2
  .obtain⟨y,_,rfl⟩:=d9.mp j
   obtain⟨b,g,c,_,rfl⟩:=fT.mp d;exact h1 ((a _ _ _ _ e).1▸g)
def dD:M->List M
 |.wt n=>[.wt n]
 |.ah l r a b=>if l=r/\lst a=lst b then eV (.ah l r) (dD a) (dD b) else eV (.ah l r) (dD a) (dD b)++eV (λx y=>.ah r l y x) (dD a) (dD b)
theorem oU:∀m:M,(dD m).Nodup/\(∀x,x∈dD m↔lst x=lst m)/\(dD m).length=aK m
 |.wt n=>⟨by simp[dD],λx=>⟨λh=>by rw[bF.mp h],λh=>bF.mpr (qf h)⟩,rfl⟩
 |.ah l r a b=>by
  obtain⟨a1,a2,p⟩:=oU a;obtain⟨q,j,s⟩:=oU b;have t:(eV (.ah l r) (dD a) (dD b)).Nodup:=qz (λx y u v e=>by injection e with _ _ h1 h2;exact⟨h1,h2⟩) q a1;have w:(eV (λx y=>.ah r l y x) (dD a) (dD b)).Nodup:=qz (λx y u v e=>by injection e with _ _ h1 h2;exact⟨h2,h1⟩) q a1;unfold dD;by_cases c:l=r/\lst a=lst b
  .rw[ai c]
   refine⟨t,λx=>⟨λh=>?_,λh=>?_⟩,by rw[nI,p,s,nU,ai c]⟩
   .obtain⟨g,d,i,f,rfl⟩:=fT.mp h
    exact(mV ((a2 _).mp d) ((j _).mp f)).1
   .obtain⟨g,i,d,f,e⟩:=mW h
    rcases e with rfl|rfl
    .exact fT.mpr ⟨g,(a2 _).mpr d,i,(j _).mpr f,rfl⟩
    .exact fT.mpr ⟨i,(a2 _).mpr (f.trans c.2.symm),g,(j _).mpr (d.trans c.2),by rw[c.1]⟩
  .rw[aj c]
   refine⟨List.nodup_append.mpr ⟨t,w,λz A G k e=>?_⟩,λx=>⟨λh=>?_,λh=>?_⟩,by rw[bV,nI,nI,p,s,nU,aj c];omega⟩
   .obtain⟨g,d,i,f,rfl⟩:=fT.mp A
    obtain⟨B,C,D,o,rfl⟩:=fT.mp k;injection e with E _ F _;exact c ⟨E,by rw[<-(a2 _).mp d,F,(j _).mp o]⟩
   .rcases aT.mp h with h|h
    .obtain⟨g,d,i,f,rfl⟩:=fT.mp h
     exact(mV ((a2 _).mp d) ((j _).mp f)).1
    .obtain⟨g,d,i,f,rfl⟩:=fT.mp h
     exact(mV ((a2 _).mp d) ((j _).mp f)).2
   .obtain⟨g,i,d,f,e⟩:=mW h
    rcases e with rfl|rfl
    .exact aT.mpr (.inl (fT.mpr ⟨g,(a2 _).mpr d,i,(j _).mpr f,rfl⟩))
    .exact aT.mpr (.inr (fT.mpr ⟨g,(a2 _).mpr d,i,(j _).mpr f,rfl⟩))
structure jQ(m:M)(ys:List M):Prop where
 nd:ys.Nodup
 mem:∀x,x∈ys↔lst x=lst m
 up:ys.Pairwise λa b=>aN b a=false
theorem jQ.len{m:M}{ys:List M}(h:jQ m ys):ys.length=aK m:=by
 obtain⟨a1,a2,a⟩:=oU m;rw[<-a];exact((List.perm_ext_iff_of_nodup h.nd a1).mpr λx=>by rw[h.mem,a2]).length_eq
theorem jQ.head{m:M}{ys:List M}(h:jQ m ys):∃r,ys=lst m::r:=by
 have a:lst m∈ys:=(h.mem _).mpr (kJ m);cases ys with
 |nil=>cases a
 |cons y r=>
  refine⟨r,?_⟩;have h1:aN y (lst m)=false:=by
   rw[<-(h.mem y).mp cP];exact qe y
  have h2:aN (lst m) y=false:=by
   rcases aR.mp a with e|e
   .rw[e];exact kN _
   .exact(List.pairwise_cons.mp h.up).1 _ e
  rw[jx y (lst m) h1 h2]
def mO:KeyOrd where
 α:=M
 blt:=aN
 irrefl:=kN
 trans:=kO
 negTrans:=λa b c h=>by
  cases e:aN a b with
  |true=>exact .inl rfl
  |false=>
   right
   cases e2:aN b a with
   |true=>exact kO _ _ _ e2 h
   |false=>rw[<-jx a b e e2];exact h
 total:=jx
theorem p7:∀m:M,SM.kq (toQ (enc m))=true
 |.wt n=>by simp[enc,toQ,b_,SM.kq,SM.gW]
 |.ah l r a b=>by simp[enc,toQ,b_,SM.kq,SM.gW,p7 a,p7 b]
theorem pF:∀m:M,(toQ (enc m)).depth<=m.deep+1
 |.wt n=>by simp[enc,toQ,b_,PyData.depth,depthAll]
 |.ah l r a b=>by
  have c:=pF a;have d:=pF b;have e:(toQ (enc (.ah l r a b))).depth=max (toQ (enc a)).depth (toQ (enc b)).depth+1:=by simp[enc,toQ,b_,PyData.depth,depthAll]
  show _<=max a.deep b.deep+1+1;omega
def mK:SM.TK M where
 q m:=toQ (enc m)
 P m:=(∀n∈m.names,Nm n)/\m.deep<=7
 ok:=p7
 lay m h:=gq m h.1
 dep m h:=by have:=pF m;omega
 eq:=mz
theorem zX(m:M):∃a,enc m=.tup a:=by cases m<;>exact⟨_,rfl⟩
theorem zW(m:M):∃x r,toQ (enc m)=.tuple (.str x::r):=by cases m<;>exact⟨_,_,rfl⟩
theorem E6{A:Ar}{r:Nat}{R:DK}{d:List M}(h:A[r]?=some (.lst (d.map enc)))(e:d.length<=200)(hk:∀m∈d,Wf m/\m.deep<=7)
  (q:∀ys:List M,ys.Nodup->(∀x,x∈ys↔x∈d)->ys.Pairwise (λa b=>aN b a=false)->R (.ref A.length) (A++[.lst (ys.map enc)])):jA r A R:=
 E1 (kd:=mK) (O:=mO) (key:=id) (.wt "") h (λk=>⟨gw k,rfl,zX k⟩) e (λk c=>⟨⟨(hk k c).1.nm,(hk k c).2⟩,zW k⟩) (λk _ k' _=>mX k k') q
def rE(d:Nat):Ct:=λds A R _=>∃m,ds=[enc m]/\Wf m/\m.deep<d/\d<=4/\∀ys A' r,Gr A A'->A'[r]?=some (.lst (ys.map enc))->A.length<=r->jQ m ys->R (.ref r) A'
theorem Gd{x m:M}(h:Wf m)(e:lst x=lst m):Wf x:=by
 refine⟨?_,λn hn=>h.nm n ((Cu e n).mp hn)⟩;have key:∀m x:M,m.arms->lst x=lst m->x.arms:=by
  intro m;induction m with
  |wt k=>intro x _ e;rw[qf e];trivial
  |ah l r a b c d=>
   intro x h e;obtain⟨i,j,o,p,f,g⟩:=h;obtain⟨t,u,q,s,h⟩:=mW e;rcases h with rfl|rfl
   .exact⟨i,j,o,p,c _ f q,d _ g s⟩
   .exact⟨o,p,i,j,d _ g s,c _ f q⟩
 exact key m x h.arms e
theorem xh{m:M}(h:m.deep<=2):aK m<=8:=by
 have h1:=vc m;have h2:2 ^ m.deep<=2 ^ 2:=jH (by decide) h;have h3:2 ^ gv m<=2 ^ 3:=jH (by decide) (by omega);have:=nS m;omega
structure Md(l r:Int)(a b:M)(done:List M)(k:Nat)(ms:List M):Prop where
 so:∀x∈ms,lst x=lst (.ah l r a b)
 co:∀p∈done,∀b',lst b'=lst b-> .ah l r p b'∈ms/\ .ah r l b' p∈ms
 le:ms.length=k
end DP
namespace My
open L2 DP MA
theorem Ad(T:TopD K mg "_law_all" v_ nj)(i:mg "sorted"=none)(G:mg "set"=none):∀d,aG P w K mg base (d+4) "_law_all" nj (aH mg 1 (rE d)):=by
 intro d;induction d with
 |zero=>
  refine iI T λds A R RE h=>?_;obtain⟨m,_,_,h,_⟩:=h;omega
 |succ d c=>
  refine fP T wJ rfl (by decide) λN RE f cdv B outer s H E Z hR j ds A R h hl=>?_;have y:=Z.units;have nd:=wJ.nd;refine⟨_,(aZ (cS (dJ y (dX y (vr 0) ay) bJ) (aU (aY (fy (af (vr 0) av)))) cT)
  (aZ (dS 1 nd (fy av))
  (aZ (sY vn rfl (sU (dL c Z j (af (dX y (vr 0) ay) av))) (dG 2 nd) (aU (sY vn rfl (sU (dL c Z j (af (dX y (vr 0) ay) av))) (dG 3 nd) (aU (kj (pq plainAttrs_list PySem.F.slot_list_extend PySem.F.type_list_extend Cr zj (vr 1) (af (fy (af (fN (af bJ (af (dX y (vr 0) ay) (af (dX y (vr 0) ay) (af (vr 2) (af (vr 3) av)))))) (af (fN (af bJ (af (dX y (vr 0) ay) (af (dX y (vr 0) ay) (af (vr 3) (af (vr 2) av)))))) av))) av)))))))
  (aU (aY (zC i G rfl y (af (vr 1) av))))))),?_⟩
  obtain⟨m,rfl,hw,hd,h4,q⟩:=h;cases m with
  |wt n=>
   refine⟨show 1<=sizeLine by decide,q [.wt n] _ _ Gr.push dU (aC _) ⟨by simp,λx=>?_,by simp⟩⟩;exact⟨λh=>by rw[bF.mp h],λh=>bF.mpr (qf h)⟩
  |ah l r a b=>
   have hd':max a.deep b.deep+1<d+1:=hd;have ta:=xh (m:=a) (by omega);have tb:=xh (m:=b) (by omega);have tab:aK a*aK b<=8*8:=Nat.mul_le_mul ta tb;have dm:(bI.ah l r a b:M).deep<=7:=by show max a.deep b.deep+1<=7;omega
   have hz:(1024:Nat)<=sizeLine:=by decide
   refine⟨ck _,rfl,a,rfl,hw.left,by omega,by omega,λya A1 r1 g1 h1 l1 ca=>?_⟩;rw[bV,gH] at l1;have h0:A1[A.length]?=some (.lst (([]:List M).map enc)):=g1.get dU;have la:=ca.len;refine uv h1 ?_;refine pI (λrest τ A'=>∃(done left g:List M) (W u:Option D),ya=done++left/\rest=left.map enc/\τ=[some (enc (.ah l r a b)),some (.ref A.length),W,u]/\A'[A.length]?=some (.lst (g.map enc))/\bG A.length A1 A'/\Md l r a b done (2*(done.length*aK b)) g) ?_ ?_ ?_ _ _ _ ⟨[],ya,[],none,none,rfl,rfl,rfl,h0,bG.refl,⟨(λx j=>by cases j),(λx j=>by cases j),(by simp)⟩⟩
   .rintro rest τ A' ⟨done,left,g,W,u,_,_,_,_,O,_⟩
    exact O _ _ (by omega) h1
   .rintro x rest τ A' ⟨done,left,g,W,u,L,X,rfl,Y,O,J⟩ Nx hN
    cases left with
    |nil=>cases X
    |cons p left=>
     cases X;have hp:lst p=lst a:=(ca.mem p).mp (by rw[L];simp);have hdn:done.length+1<=aK a:=by rw[<-la,L];simp
     refine⟨rfl,b,rfl,hw.right,by omega,by omega,λyb A2 r2 g2 h2 l2 cb=>?_⟩;have ne2:r2≠A.length:=by have:=iP Y;omega
     have lb:=cb.len;refine uv h2 ?_;refine pI (λrest τ A'=>∃(z lf g:List M) (u:Option D),yb=z++lf/\rest=lf.map enc/\τ=[some (enc (.ah l r a b)),some (.ref A.length),some (enc p),u]/\A'[A.length]?=some (.lst (g.map enc))/\bG A.length A2 A'/\Md l r a b done (2*(done.length*aK b)+2*z.length) g/\∀t∈z,.ah l r p t∈g/\ .ah r l t p∈g) ?_ ?_ ?_ _ _ _ ⟨[],yb,g,u,rfl,rfl,rfl,g2.get Y,bG.refl,J,λx j=>by cases j⟩
     .rintro rest τ A' ⟨z,lf,g,u,_,_,_,_,Q,_⟩
      exact Q _ _ ne2 h2
     .rintro x rest τ A' ⟨z,lf,g,u,k1,k2,rfl,v,Q,C,J3⟩ Nx AO
      cases lf with
      |nil=>cases k2
      |cons o lf=>
       cases k2;have ho:lst o=lst b:=(cb.mem o).mp (by rw[k1];simp);have hdl:z.length+1<=aK b:=by rw[<-lb,k1];simp
       have mk:=mV (l:=l) (r:=r) hp ho;have GC:done.length*aK b+aK b<=aK a*aK b:=by
        have:=Nat.mul_le_mul_right (aK b) hdn;rw[add_mul,one_mul] at this;exact this
       refine⟨pY v,show 5<=sizeLine by decide,show 5<=sizeLine by decide,show 2<=sizeLine by decide,?_⟩;refine Ac (getElem?_push v) dU (by rw[bA,C.le];simp;omega) ?_;refine AO _ _ ⟨z++[o],lf,g++[.ah l r p o,.ah r l o p],some (enc o),by rw[k1];simp,rfl,rfl,?_,(Q.trans bG.push).trans bG.set,⟨λx j=>?_,λp' I t k=>?_,by simp[C.le];omega⟩,λt k=>?_⟩
       .rw[get_set (getElem?_push v)]
        simp[enc]
       .rcases aT.mp j with h|h
        .exact C.so x h
        .rcases aR.mp h with rfl|h
         .exact mk.1
         .rw[bF.mp h];exact mk.2
       .obtain⟨S,U⟩:=C.co p' I t k
        exact⟨aT.mpr (.inl S),aT.mpr (.inl U)⟩
       .rcases aT.mp k with h|h
        .obtain⟨S,U⟩:=J3 t h
         exact⟨aT.mpr (.inl S),aT.mpr (.inl U)⟩
        .rw[bF.mp h]
         exact⟨by simp,by simp⟩
     .rintro τ A' ⟨z,lf,g,u,k1,k2,rfl,v,Q,C,J3⟩
      obtain rfl:lf=[]:=by simpa using k2.symm
      rw[e8] at k1;subst k1;refine hN _ _ ⟨done++[p],left,g,some (enc p),u,by rw[L];simp,rfl,rfl,v,(O.trans g2.but).trans Q,⟨C.so,λp' I t k=>?_,?_⟩⟩
      .rcases aT.mp I with h|h
       .exact C.co p' h t k
       .rw[bF.mp h]
        exact J3 t ((cb.mem t).mpr k)
      .rw[C.le,lb,bV,gH,add_mul,one_mul];omega
   .rintro τ A' ⟨done,left,g,W,u,L,X,rfl,Y,O,J⟩
    obtain rfl:left=[]:=by simpa using X.symm
    rw[e8] at L;subst L;have V:∀x,x∈g↔lst x=lst (.ah l r a b):=λx=>⟨J.so x,λh=>by
     obtain⟨a',t,ha,hb,e⟩:=mW h;obtain⟨S,U⟩:=J.co a' ((ca.mem a').mpr ha) t hb;rcases e with rfl|rfl
     .exact S
     .exact U⟩
    have gA:Gr A A':=Gr.CS (Gr.push.trans g1) (aC _) O;refine E6 Y (by rw[J.le,la];omega) (λx j=>⟨Gd hw (J.so x j),by rw[sS (J.so x j)];exact dm⟩) λys y1 y2 y3=>?_;exact q ys _ _ (gA.trans Gr.push) dU gA.len ⟨y1,λx=>by rw[y2,V],y3⟩
theorem An{x:Addr}{fd:FuncData}(T:f_ K "law" "law" gy x fd)(i:mg "len"=none)(e:aG P w K mg base 10 "_law_some" nv (aH mg 3 (rR 3)))(d:aG P w K mg base 9 "_law_turned" ny (aH mg 3 (rT 5)))(g:aG P w K mg base 8 "_law_all" nj (aH mg 1 (rE 4)))(a:aG P w K mg base 15 "how_many_turned" nA (aH mg 1 rH))(b:aG P w K mg base 10 "least_turned" nF (aH mg 1 rM)):cQ P w K mg base (aQ P w) 16 x fd qv (aH mg 1 rL):=by
 refine AB T wN rfl (by decide) λN RE f G B outer s H E k W l ds A R h Y=>?_;have n:=k.units;have nd:=wN.nd;refine⟨_,(@aZ _ _ _ _ _ _ (dS 1 nd (fy av)) (@aZ _ _ _ _ _ _ (dS 2 nd (dL e k l (af (vr 0) (af (vr 1) (af ay av))))) (@aZ _ _ _ _ _ _ (dS 3 nd (dL g k l (af (vr 2) av))) (@aZ _ _ _ _ _ _ (cS (PW.pt (gh (nP n (dL b k l (af (vr 2) av)) (dX n (vr 3) ay)) (iH (nP n (dL a k l (af (vr 2) av)) (eu fu ef i fJ (af (vr 3) av)))))) (@aU _ _ _ _ (aY ji)) cT) (@aZ _ _ _ _ _ _ (dS 4 nd (dL d k l (af (vr 0) (af (vr 1) (af (vr 2) av))))) (@aU _ _ _ _ (aY (pe (pK n (dL b k l (af (vr 4) av)) (dX n (vr 3) ay)) (pC (pK n (dL a k l (af (vr 4) av)) (eu fu ef i fJ (af (vr 3) av)))))))))))),?_⟩;obtain⟨ns,rfl,q⟩:=h;refine⟨ck _,rfl,ns,_,0,rfl,⟨[],dU,aC _⟩,by decide,λm Z p dm y=>?_⟩;refine⟨rfl,m,rfl,p,by omega,by omega,λys A2 r g2 h2 l2 cl=>?_⟩;have z:=cl.len;obtain⟨rest,I⟩:=cl.head;have h0:∀X:Ar,X[r]?=some (.lst (ys.map enc))->∀Q:DK,Q (enc (lst m)) X->kD r (.int 0) X Q:=λX J Q L=>ux J (v:=enc (lst m)) (by rw[I];exact ye (j:=0) rfl) L;have wl:=kK p;have dl:=gX m;refine⟨rfl,_,⟨m,rfl,p,by omega,rfl⟩,λA3 g3=>?_⟩;refine h0 _ (g3.get h2) _ ?_;refine Cv wl.nm wl.nm (by omega) ?_;refine cN (λc=>absurd rfl c) (λ_=>?_);refine⟨rfl,_,⟨m,rfl,p,by omega,rfl⟩,λA4 t=>?_⟩;refine kF ((g3.trans t).get h2) ?_;refine cN (λc=>absurd (by rw[bA,z]) c) (λ_=>?_);have M:=(g2.trans g3).trans t;have lt:=iP (Classical.choose_spec y.tw).1;refine⟨rfl,ns,_,m,0+200,rfl,p,by omega,by decide,y.tw.gr M,by decide,λo O C u S=>?_⟩;have dO:=sS u;have D:O[r]?=some (.lst (ys.map enc)):=S.but _ _ (by omega) ((g3.trans t).get h2);refine⟨rfl,_,⟨o,rfl,C,by omega,rfl⟩,λA6 F=>?_⟩;refine h0 _ (F.get D) _ ?_;rw[u];refine tF wl.nm wl.nm (by omega) ?_;refine cD (λc=>?_) (λc=>absurd rfl c);refine⟨rfl,_,⟨o,rfl,C,by omega,rfl⟩,λA7 U=>?_⟩;refine kF ((F.trans U).get D) ?_;have V:aK o=aK m:=by rw[<-nT o,u,nT]
 show R (.bl (decide ((aK o:Int)=((ys.map enc).length:Nat)))) _;rw[bA,z,V,lJ rfl];exact q _
end My
namespace L2
theorem tD{K:Frag}{h:Heap}{mg:aq}{x:Str}{st:Stmt}{ps:List Str}{f:Addr}{g:Value}{i an:Option Addr}{e:Array (Option Value)}{kV doc pm b ct:Value}(X:K.In h)(G:h.Ns mainGlobals mg)
  (a:nsIn K mainGlobals x=some (some (.ref f)):=by k_is)(l:K.lookup f=some ⟨g,i,.func (fnOf x x (gQ st) (dQ st) (aI st) .none kV doc pm an b ct),e⟩:=by k_is)(c:codeIn K b x=true:=by k_is)(k:keepIn K (.ref f)=true:=by k_is)
  (j:∀(kV doc pm:Value) (an:Option Addr) (b ct:Value) (d:List Value),d.length=ps.length->bindArgs (fnOf x x (gQ st) (dQ st) (aI st) .none kV doc pm an b ct) ⟨d,[]⟩=pure (ps.zip d):=by(intro _ _ _ _ _ _ d m;rcases d with _|⟨_,_|⟨_,_|⟨_,_|⟨_,_|⟨_,_|⟨_,_⟩⟩⟩⟩⟩⟩<;>first|rfl|(simp at m))):TopD K mg x st ps:=
 ⟨f,_,pR l c k,(pR l c k).binds j,mg_of X G a⟩
theorem bN{K:Frag}{h:Heap}{mg:aq}{x:Str}(X:K.In h)(G:h.Ns mainGlobals mg)(a:nsIn K mainGlobals x=some none:=by k_is):mg x=none:=PySem.W.mg_none_of X G a
theorem eX{K:Frag}{h:Heap}{mg:aq}{x:Str}{v:Value}(X:K.In h)(G:h.Ns mainGlobals mg)(a:nsIn K mainGlobals x=some (some v):=by k_is):mg x=some v:=mg_of X G a
end L2
namespace My
open L2 DP MA
theorem walk{l:PySem.W.OpenLaw}{q:Program}{loose:List Str}{i:(aq)->Heap->Prop}{c:World->Heap->Prop}{d:DefRec}{K:Params->Frag}(hn:l.most=some 63)(b:d.params.defaults=[])(j:∀p,(K p).all (λp=>iQ p.2)=true)
  (m:∀(w:World) (h:Heap),c w h->(K w.params).In h)
  (F:∀(w:World) (mg:aq) (g:Addr) (h:Heap),(K w.params).In h->h.Ns mainGlobals mg->mg d.name=some (.ref g)->
   ∃fd:FuncData,(∀(s:Shared) (u:Value),BindsTo s fd ⟨[u],[]⟩ [("_law_script",u)])/\∀base:Heap,(K w.params).In base->base.Ns mainGlobals mg->cQ l.prog w (K w.params) mg base (aQ l.prog w) 16 g fd ["_law_script"] jB):
  PySem.W.WalkO q loose i c l.row.toRowW d [] (λf vs=>PySem.call f vs):=
 L2.F8 (n:=63) (k:=16) (x:="_law_script") (CX:=λw=>aQ l.prog w) (sp:=λ_=>jB) hn (by decide) b ⟨rfl,by decide,by decide⟩ m F (λw H a ns _ o r=>AD (j w.params) o r) λw H s e s' z=>by
  obtain⟨_,_,_,_,_,z⟩:=z
  exact z
theorem BW{P:Program}{w:World}{K:Frag}{h:Heap}{mg:aq}{o j:Addr}{k b:Option Addr}{l:Array (Option Value)}{m c d g a i:Value}(X:K.In h)(G:h.Ns mainGlobals mg)(n:mg "law"=some (.ref o))
  (p:nsIn K mainGlobals "law"=some (some (.ref j)))(q:K.lookup j=some ⟨m,k,.func (fnOf "law" "law" (gQ gy) (dQ gy) (aI gy) .none c d g b a i),l⟩)(r:codeIn K a "law"=true)(k3:keepIn K (.ref j)=true)
  (go:∀(base:Heap) {f:Addr} {fd:FuncData},f_ K "law" "law" gy f fd->cQ P w K mg base (aQ P w) 16 f fd qv jB):
  ∃fd:FuncData,(∀(s:Shared) (v:Value),BindsTo s fd ⟨[v],[]⟩ [("_law_script",v)])/\∀base:Heap,K.In base->base.Ns mainGlobals mg->cQ P w K mg base (aQ P w) 16 o fd ["_law_script"] jB:=by
 have e:=n.symm.trans (mg_of X G p)
 cases e
 exact⟨fnOf "law" "law" (gQ gy) (dQ gy) (aI gy) .none c d g b a i,λs v=> .of_eq rfl,λbase _ _=>go base (pR q r k3)⟩
end My
end
open PySem PySem.W PyProof.Rows
set_option maxHeartbeats 0
structure PySem.W.Fast:Prop where (tw14778846292210774071 tw861502493610598483 tw8481591733479314656 tw7774113678449685934 tw11903097693493003620 tw20248706157231231 tw7137464281647711342 tw4841897428166931638 tw9582823730064241283 tw17464319187374939960 tw16202735626409321261 tw9977182230042388008 tw4562827626845409882 tw87601786513091389 tw5702276774652866934 tw5444512763150141072 tw3308634892276815127 tw3270257207059953099 tw12887044766017154078 tw6822071536725586909 tw12903330217458380548 tw12917704675397863716 tw5217270863462422736 tw1000662321505670351 tw2080317491765294665 tw2789304352393801511 tw5994696166404524948 tw16409965706819354750 tw9536688357841153863 tw15401437161963490237 tw6469784823511061222 tw16670775579421159206 tw4953865588907285216 tw2950685276103557050 tw209982475168477708 tw2403389108928632939 tw8972062959192195235 tw2570914705882880060 tw11161164713144168021 tw10295913840692754127 tw6128106870883400570 tw1495895850433845275 tw3641951560692057861 tw2187251505897268136 tw16919654943277366748 tw16108870410212019532 tw16723463757517087524 tw8899516883271353254 tw4075453323654395381 tw9456574344343218679 tw10042083083395451092 tw8739830900816887780 tw15127105006835628225 tw5537553045615171315 tw8159993647027272844 tw14689541978594310382 tw1383625962624193546 tw18157406047293677543 tw17214186515701724070 tw12330612334027959195 tw3419001889969749887 tw15861351967447197489 tw14842496431369740429 tw13769103115541136327 tw2646887283097553488 tw16864618592142003386 tw3239113980409921550 tw3543459598558145280 tw6148498323302512570 tw8912161614967838395 tw7480016910919988345 tw8997383693586321770 tw11898673842065290130 tw8219003486749837733 tw15779231459743154856 tw13622603851894308203 tw896239598344801917 tw15173544498738437827 tw5362036446546632119 tw3919386906821981792 tw5101696844757716304 tw4039707410889071942 tw11823594873375168262 tw4684226298888400098 tw447263597446747957 tw2144661209622563809 tw13953587524928339648 tw4683681711962371626 tw4635989785427082552 tw2483420100392427323 tw2135409205425526673 tw15402603294489630176 tw7164969610272591079 tw17292613610259460706 tw4548300405975405348 tw12459912946257978736 tw2295934692909999376 tw16053306600634468012 tw896878414759379649 tw2692750590507578028 tw10016166984437732892 tw11429584451438056573 tw14904681115217272601 tw4547051000311932777 tw14424681132571578402 tw938635154573522699 tw2941924889016668590 tw11962351593759143498 tw5438652380644606353 tw3985964047577975286 tw6522051377940421278 tw17187875760726034783 tw10294118229990073760 tw6000693304483471281 tw17062427158221528723 tw643336161829623379 tw10374632558016547081 tw4906484309439969231 tw4734895289157585001 tw446995266069924076 tw16955839230299176341 tw9495317472360511255 tw13812277999558781770 tw8297923619242306668 tw5449601097390414333 tw14782755387869428366 tw6953138203311097117 tw7476452910721959123 tw2400638427578300857 tw4077048163395320219 tw18101783494082082527 tw5498123283257192965 tw10792498714594961201 tw9919008367099125623 tw9848817304349107530 tw9796564346219866840 tw9116068151291705539 tw8949853181751564097 tw8760152093665844161 tw8733291241859026926 tw8285278889055680438 tw8060666987683057360 tw8047209995159408440 tw7424060955962978353 tw7217548393331319763 tw7086961617601330827 tw6858818405166986180 tw6549852094080907030 tw6356304189028158447 tw6229817132586351632 tw4849480874435393781 tw4804111812005502284 tw4490611911172417597 tw3382625519597670723 tw3042748168174471775 tw2455152089536381482 tw2353497105660221152 tw2261719852989239553 tw2107523057676978006 tw18418582437962087742 tw17963105932079019327 tw17518593693041627797 tw17351735930882485243 tw1725486776273817318 tw16902440903046159558 tw16822532161544500889 tw16140922888777852060 tw16120054744476736488 tw15042883488752021643 tw14760874974797668852 tw14243238205550065757 tw14226173905949225808 tw14172470266813156586 tw140236481695663071 tw13757698761724263525 tw12727641955093265886 tw12382822922155266910 tw11738243743197964597 tw11564986514327137767 tw11066385474520676512 tw10519837036962490867 tw10510056951384868246 tw10258873121960336067:True)
open L2 DP MA My
open_top hd for PySem.Challenge.rw_hangstill_k12_whole_least_turned
theorem PySem.Challenge.cw_hangstill_k12_whole_least_turned_holds : PySem.Challenge.rw_hangstill_k12_whole_least_turned.Holds := by
 refine hd ?_;k_fill;refine My.walk (l:=PySem.Challenge.rw_hangstill_k12_whole_least_turned) rfl rfl ?K (λw h Y=>PySem.W.kIn_of Y) ?F;case K=>exact λp=>(Eq.refl true:true=true)
 case F=>
  intro w mg fa h KX G hmg;refine' My.BW KX G hmg ?aL ?lL ?cL ?kL ?AL;(case aL=>k_is);(case lL=>k_is);(case cL=>k_is);(case kL=>k_is);case AL=>
   intro base f fd T;have B8:mg "NoMobile"=some _:=eX KX G;have xS:=Am (P:=PySem.Challenge.rw_hangstill_k12_whole_least_turned.prog) (w:=w) (base:=base) (tD KX G) (bN KX G) (bN KX G) (bN KX G);have xR:=Al (P:=PySem.Challenge.rw_hangstill_k12_whole_least_turned.prog) (w:=w) (base:=base) (tD KX G) (bN KX G) (bN KX G) (bN KX G) (bN KX G) (eX KX G);have xN:=Aj (tD KX G) (bN KX G) (bN KX G) (bN KX G) (bN KX G) (eX KX G) xR xS 6;have xM:=Ak (tD KX G) (eX KX G) xN;have rm:=Af (tD KX G) B8 (by k_exc) xM;have xW:=Az (P:=PySem.Challenge.rw_hangstill_k12_whole_least_turned.prog) (w:=w) (base:=base) (tD KX G);have rq:=Ao (tD KX G) (bN KX G) xW 7;have xU:=Ax (tD KX G) rq 6;have xO:=Aq (tD KX G) rm rq;have xK:=Ai (tD KX G) rm xU;have xH:=Ae (P:=PySem.Challenge.rw_hangstill_k12_whole_least_turned.prog) (w:=w) (base:=base) (tD KX G) (bN KX G);have xP:=As (tD KX G) xH;have lP:=Ag (tD KX G) (bN KX G) xP;have rA:=Av (tD KX G) (bN KX G) lP;have xQ:=Au (tD KX G) lP rA;have xJ:=Ah (P:=PySem.Challenge.rw_hangstill_k12_whole_least_turned.prog) (w:=w) (base:=base) (tD KX G) (bN KX G) 8;have xT:=Aw (tD KX G) lP rA xQ xJ 3 (by decide);have xV:=Ay (tD KX G) lP 5;have xG:=Ad (P:=PySem.Challenge.rw_hangstill_k12_whole_least_turned.prog) (w:=w) (base:=base) (tD KX G) (bN KX G) (bN KX G) 4;exact(An T (bN KX G) xT xV xG xK xO).imp λvs H Q E h=>E5 h
