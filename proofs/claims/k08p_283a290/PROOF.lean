import PyProof.Rows.All
import Wide.All
import OpenK.AllK
import Wide.FinOn
import Lean
import PyProof.EqAt
import PyProof.EqKinds
import PyProof.NeKinds
import PyProof.TupleCall
import PyProof.ZipIter
import PyProof.ListNew
import PyProof.P3Eq
import PyProof.NeData
import PyProof.EnumFor
import PyProof.EnumMake
import PyProof.ExcBaseAll.ValueError
import PyProof.Rows.SetFrom
import PyProof.CollectWalk
import PyProof.SumWalk
import PyProof.FString
import KE.KDictOf
import PyProof.AttrMissHeap
import PyProof.TupleOfGen
import KE.KDictSum
import PyProof.ConsumeS
import PyProof.P3In
import PyProof.Rows.RuleN_abs
import PyProof.Rows.FactsN_abs
import PyProof.StrBlockI
import PyProof.SliceStr2
import PyProof.Rows.StrClose
import PyProof.FactsAll.tuple_2
import PyProof.MinMaxWalk
import PyProof.WalksMore
import PyProof.Rows.RowHeap
import PyProof.DictWalks
import KE.KSortTup
import PyProof.Rows.ListMul
import PyProof.ListRange
import PyProof.TupleOfStr
import KE.KRevSl
import KE.KDictList
import KE.KIntText
import PyProof.ReprStr
import KE.KRevIter
import PyProof.DictUpdate
import PyProof.StrOps
import KE.KEqDict
import KE.IntBitsLaws
import PySem.Challenge.RW_hangstill_k08_whole_rings
import KE.RegKIsAll
import KE.RegKTryMore
set_option Elab.async false
set_option linter.all false
set_option maxRecDepth 100000
set_option maxHeartbeats 4000000
open PySem.Heap (DictOf SameBut size_push size_update)
open Option (getD_none isSome_map)
open PySem.W (Frag codeIn excIn findIn fnOf hideAll hideAll_get instObj keepIn kitOne kitx_dict kitx_list kitx_tuple lookIn methodObj mg_of nsIn of_hideAll plainGet)
open Nat (le_of_lt le_succ lt_trans succ_pos zero_add)
open List (Perm append_assoc ext_getElem? find?_append foldl forIn_cons forIn_nil getElem_mem length_nil map_drop map_nil map_take mem_filter mem_range mem_reverse nodup_nil not_lt of_mem_zip range replicate reverse_cons take_length take_succ)
open Array (toList)
open Int (add_comm ediv_le_self mul_assoc mul_comm natCast_pow one_mul)
open PySem.F (args_tuple_add_2 entry_tuple_add slot_dict_update slot_list_extend slot_tuple_add type_list_extend)
open PySem.PyData (canLay0 canLayAll0 depthAll eqvAll)
abbrev nJ:= @_root_.PyProof.Rows.callWith_type1
abbrev yW:= @_root_.PyProof.Rows.slot_tuple_getitem
abbrev lW:= @_root_.PySem.F.slot_list_append
abbrev zf:= @_root_.PySem.F.slot_list_getattribute
abbrev zg:= @_root_.PySem.F.slot_tuple_getattribute
abbrev l9:= @_root_.PySem.F.type_list_append
abbrev uT:= @_root_.PySem.Around.under_plainId
abbrev nU:= @_root_.Array.getElem?_eq_getElem
abbrev uV:= @_root_.Array.getElem?_eq_some_iff
abbrev mz:= @_root_.Bool.eq_iff_iff
abbrev b9:= @_root_.Bool.false_ne_true
abbrev uD:= @_root_.PySem.F.slot_zip_next
abbrev eK:= @_root_.Int.le_of_lt
abbrev fj:= @_root_.Int.le_trans
abbrev nN:= @_root_.Int.lt_of_lt_of_le
abbrev qp:= @_root_.Int.mul_le_mul_of_nonneg_left
abbrev yZ:= @_root_.Int.mul_le_mul_of_nonneg_right
abbrev ji:= @_root_.Int.ne_of_gt
abbrev uL:= @_root_.List.drop_of_length_le
abbrev uM:= @_root_.List.eraseIdx_eq_take_drop_succ
abbrev y_:= @_root_.List.filterMap_cons
abbrev za:= @_root_.List.getD_eq_getElem?_getD
abbrev zb:= @_root_.List.getElem?_cons_succ
abbrev bR:= @_root_.List.getElem?_eq_some_iff
abbrev zc:= @_root_.List.getElem?_zipIdx
abbrev zd:= @_root_.List.length_reverse
abbrev uN:= @_root_.List.lt_irrefl
abbrev ze:= @_root_.List.set_append_left
abbrev uO:= @_root_.List.take_of_length_le
abbrev uP:= @_root_.Nat.le_of_ble_eq_true
abbrev fk:= @_root_.PySem.boot_len
abbrev lX:= @_root_.PySem.mem_of_lookup
abbrev jj:= @_root_.Rat.intCast_mul
abbrev lY:= @_root_.Rat.mul_pos
abbrev lZ:= @_root_.List.all_eq_true
abbrev jK:= @_root_.Bool.and_eq_true
abbrev l7:= @_root_.List.any_cons
abbrev nP:= @_root_.List.any_eq_true
abbrev kr:= @_root_.List.append_nil
abbrev jk:= @_root_.PyProof.Rows.boot_list
abbrev uQ:= @_root_.PySem.builtinLookup_eq_fast
abbrev ku:= @_root_.PySem.call_meets
abbrev uR:= @_root_.PySem.codeAny_builtin
abbrev bV:= @_root_.congrArg
abbrev eL:= @_root_.decide_eq_false
abbrev cW:= @_root_.decide_eq_true
abbrev nQ:= @_root_.decide_eq_true_eq
abbrev kB:= @_root_.List.drop_eq_getElem_cons
abbrev qq:= @_root_.List.drop_eq_nil_of_le
abbrev qt:= @_root_.Int.emod_lt_of_pos
abbrev qu:= @_root_.Int.emod_nonneg
abbrev jL:= @_root_.List.find?_cons
abbrev qv:= @_root_.List.find?_eq_none
abbrev nR:= @_root_.List.find?_some
abbrev uS:= @_root_.List.flatMap_append
abbrev nS:= @_root_.List.flatten_cons
abbrev l_:= @_root_.List.foldl_append
abbrev iA:= @_root_.List.foldl_cons
abbrev bP:= @_root_.PySem.Heap.get?_push_of_some
abbrev eT:= @_root_.PySem.Heap.get?_push_size
abbrev qw:= @_root_.PySem.Heap.get?_update_other
abbrev uU:= @_root_.PySem.Heap.get?_update_self
abbrev gz:= @_root_.List.getElem?_append_left
abbrev mh:= @_root_.List.getElem?_append_right
abbrev bO:= @_root_.List.getElem?_eq_getElem
abbrev mj:= @_root_.List.getElem?_eq_none
abbrev bH:= @_root_.List.getElem?_map
abbrev fm:= @_root_.List.getElem?_set_ne
abbrev fu:= @_root_.List.getElem?_set_self
abbrev qx:= @_root_.List.getElem_of_mem
abbrev ay:= @_root_.if_neg
abbrev aA:= @_root_.if_pos
abbrev mq:= @_root_.Option.isSome_iff_exists
abbrev gO:= @_root_.PySem.W.kia_one
abbrev mu:= @_root_.Nat.le_add_right
abbrev qy:= @_root_.Nat.le_max_left
abbrev qz:= @_root_.Nat.le_max_right
abbrev aI:= @_root_.Nat.le_refl
abbrev dU:= @_root_.Nat.le_trans
abbrev dI:= @_root_.List.length_append
abbrev jl:= @_root_.List.length_cons
abbrev mw:= @_root_.List.length_drop
abbrev aR:= @_root_.List.length_map
abbrev uW:= @_root_.List.length_pos_iff
abbrev jM:= @_root_.List.length_take
abbrev uX:= @_root_.Array.length_toList
abbrev uY:= @_root_.List.length_zipIdx
abbrev gA:= @_root_.List.lookup_cons
abbrev fV:= @_root_.Nat.lt_irrefl
abbrev nV:= @_root_.Int.lt_of_le_of_lt
abbrev dz:= @_root_.Nat.lt_of_lt_of_le
abbrev bh:= @_root_.PySem.Heap.lt_size
abbrev cX:= @_root_.List.map_append
abbrev nW:= @_root_.List.map_congr_left
abbrev cB:= @_root_.List.map_cons
abbrev cY:= @_root_.List.map_map
abbrev ck:= @_root_.List.mem_append
abbrev mC:= @_root_.List.mem_append_left
abbrev gP:= @_root_.List.mem_append_right
abbrev cu:= @_root_.List.mem_cons
abbrev cj:= @_root_.List.mem_cons_of_mem
abbrev cR:= @_root_.List.mem_cons_self
abbrev qi:= @_root_.List.mem_filterMap
abbrev qj:= @_root_.List.mem_flatMap
abbrev br:= @_root_.List.mem_map
abbrev gw:= @_root_.List.mem_map_of_mem
abbrev iO:= @_root_.List.mem_of_find?_eq_some
abbrev dw:= @_root_.List.mem_of_getElem?
abbrev uC:= @_root_.List.mem_of_mem_drop
abbrev lO:= @_root_.List.mem_of_mem_take
abbrev b_:= @_root_.List.mem_singleton
abbrev nK:= @_root_.List.mem_zipIdx_iff_getElem?
abbrev dc:= @_root_.Int.mul_le_mul
abbrev nL:= @_root_.Int.mul_nonneg
abbrev cJ:= @_root_.Int.mul_pos
abbrev lQ:= @_root_.Nat.ne_of_gt
abbrev cU:= @_root_.Nat.ne_of_lt
abbrev gx:= @_root_.List.nil_append
abbrev qk:= @_root_.List.nodup_append
abbrev ki:= @_root_.List.nodup_cons
abbrev gK:= @_root_.List.not_mem_nil
abbrev fE:= @_root_.of_decide_eq_true
abbrev gM:= @_root_.or_false
abbrev iz:= @_root_.PySem.F.plainAttrs_list
abbrev ql:= @_root_.PySem.plainId_quiet
abbrev uE:= @_root_.PySem.F.plain_extend_loop
abbrev gy:= @_root_.Nat.pow_le_pow_right
abbrev lR:= @_root_.Int.pow_nonneg
abbrev jI:= @_root_.Int.pow_succ
abbrev jJ:= @_root_.List.replicate_succ
abbrev cA:= @_root_.List.size_toArray
abbrev nM:= @_root_.Int.toNat_natCast
abbrev uF:= @_root_.PySem.tupleKind_room_in1
abbrev uG:= @_root_.PySem.typeLookup_type
abbrev qm:= @_root_.PySem.wpAny_Call_Name_kw
abbrev aC:= @_root_.PySem.wpAny_bind
abbrev yX:= @_root_.PySem.wpAny_callSpecial?_slot
abbrev uH:= @_root_.PySem.wpAny_execs_nil
abbrev iP:= @_root_.PySem.wpAny_field
abbrev ko:= @_root_.PySem.wpAny_holding
abbrev nO:= @_root_.PySem.wpAny_mono
abbrev lS:= @_root_.PySem.wpAny_newObj_type
abbrev yY:= @_root_.PySem.wpAny_nextOf_list_item
abbrev lU:= @_root_.PySem.wpAny_passesOwn
abbrev aX:= @_root_.PySem.wpAny_pure
abbrev uI:= @_root_.PySem.wpAny_seqItems
abbrev uJ:= @_root_.PySem.wpAny_standAt
abbrev lV:= @_root_.PySem.wpAny_truthy_bool
abbrev qo:= @_root_.PySem.wpAny_typeOf
abbrev uK:= @_root_.PySem.wpAny_updateSeq
abbrev cV:= @_root_.Nat.zero_le
section
open PySem
abbrev aq:=Str->Option Value
abbrev bw:=Value->Shared->Prop
abbrev aQ:=List (Addr×Obj)
end
section
open PySem PySem.Spec PyProof.Rows
namespace L2
abbrev Key:=Sum Int Str
def jB:Key->Value->Bool
 |.inl k,v=>Value.isInt k v
 |.inr x,v=>Value.isStrOf x v
def Lk(w:World):Key->Int
 |.inl k=>hashInt k
 |.inr x=>hashStr w x
theorem g_:∀{k:Key} {v:Value},jB k v=true->(∃i t,k=Sum.inl i/\v=Value.int i t)\/(∃x t,k=Sum.inr x/\v=Value.str x t)
 |.inl i,v,h=>by
  obtain⟨t,e⟩:=Value.isInt_shape (k:=i) (v:=v) h;exact .inl ⟨i,t,rfl,e⟩
 |.inr x,v,h=>by
  obtain⟨t,e⟩:=Value.isStrOf_shape (x:=x) (v:=v) h;exact .inr ⟨x,t,rfl,e⟩
theorem Ll(i:Int)(t:Tok):jB (.inl i) (.int i t)=true:=by simp[jB,Value.isInt]
theorem Lm(x:Str)(t:Tok):jB (.inr x) (.str x t)=true:=by simp[jB,Value.isStrOf]
theorem Ln(a b:Int):decide ((Sum.inl a:Key)=Sum.inl b)=(a==b):=by
 by_cases e:a=b
 .subst e;simp
 .have h:¬(Sum.inl a:Key)=Sum.inl b:=λq=>e (Sum.inl.inj q)
  rw[eL h];exact(beq_eq_false_iff_ne.mpr e).symm
theorem Lq(a b:Str):decide ((Sum.inr a:Key)=Sum.inr b)=decide (a=b):=by
 by_cases e:a=b
 .subst e;simp
 .have h:¬(Sum.inr a:Key)=Sum.inr b:=λq=>e (Sum.inr.inj q)
  rw[eL h,eL e]
theorem Lo(a:Int)(b:Str):decide ((Sum.inl a:Key)=Sum.inr b)=false:=eL (λq=>nomatch q)
theorem Lp(a:Str)(b:Int):decide ((Sum.inr a:Key)=Sum.inl b)=false:=eL (λq=>nomatch q)
def cO(prog:Program)(w:World):PySem.KeyKind prog w Key where
 is:=jB
 hash:=Lk w
 inj:=λv a b ha hb=>by
  rcases g_ ha with⟨i,t,rfl,rfl⟩|⟨x,t,rfl,rfl⟩
  .rcases g_ hb with⟨j,u,rfl,e⟩|⟨y,u,rfl,e⟩
   .injection e with e1 _;rw[e1]
   .exact nomatch e
  .rcases g_ hb with⟨j,u,rfl,e⟩|⟨y,u,rfl,e⟩
   .exact nomatch e
   .injection e with e1 _;rw[e1]
 byValue:=λk v h=>by
  rcases g_ h with⟨i,t,rfl,rfl⟩|⟨x,t,rfl,rfl⟩<;>rfl
 pyHash:=λhv h=>by
  rcases g_ hv with⟨i,t,rfl,rfl⟩|⟨x,t,rfl,rfl⟩
  .exact wpAny_pyHash_int h
  .exact wpAny_pyHash_str h
 eqBool:=λhu hv h=>by
  rcases g_ hu with⟨i,t,rfl,rfl⟩|⟨x,t,rfl,rfl⟩
  .rcases g_ hv with⟨j,u,rfl,rfl⟩|⟨y,u,rfl,rfl⟩
   .rw[Ln] at h;exact wpAny_eqBool_int h
   .rw[Lo] at h;exact SeqAt.EqAt.int_str i t y u _ _ _ _ h
  .rcases g_ hv with⟨j,u,rfl,rfl⟩|⟨y,u,rfl,rfl⟩
   .rw[Lp] at h;exact SeqAt.EqAt.str_int x t j u _ _ _ _ h
   .rw[Lq] at h;exact wpAny_eqBool_str h
 «strs»:=λk x t v h=>by
  rcases g_ h with⟨i,u,rfl,e⟩|⟨y,u,rfl,e⟩
  .exact nomatch e
  .injection e with e1 _
   subst e1
   cases v<;>rfl
theorem L3(prog:Program)(w:World)(i:Int)(t:Tok):(cO prog w).is (.inl i) (.int i t)=true:=Ll i t
theorem L4(prog:Program)(w:World)(x:Str)(t:Tok):(cO prog w).is (.inr x) (.str x t)=true:=Lm x t
inductive V where
 |ai|bl (b:Bool)|int (i:Int)|str (x:Str)|iI (b:Array UInt8)|mW (b:UInt64)|ref (a:Addr)|ty (n:String)
 deriving DecidableEq
def RelV:V->Value->Prop
 |.ai,u=>u=Value.none
 |.bl b,u=>u=Value.bool b
 |.int i,u=>∃t,u=Value.int i t
 |.str x,u=>∃t,u=Value.str x t
 |.iI b,u=>∃t,u=Value.bytes b t
 |.mW b,u=>∃t,u=Value.float b t
 |.ref a,u=>u=Value.ref a
 |.ty n,u=>u=Value.type n
abbrev Vals:List V->List Value->Prop:=Paired RelV
theorem Vals.length{xs:List V}{a:List Value}(r:Vals xs a):xs.length=a.length:=Paired.length r
theorem Vals.get:∀{xs:List V} {a:List Value} {i:Nat} {x:V},Vals xs a->xs[i]?=some x->∃u,a[i]?=some u/\RelV x u
 |_,_,_,_,.nil,e=>by simp at e
 |_,_,0,_,.cons r _,e=>by simp at e;subst e;exact⟨_,rfl,r⟩
 |_,_,i+1,x,.cons _ t,e=>by
  obtain⟨u,h1,h2⟩:=Vals.get (i:=i) (x:=x) t (by simpa using e);exact⟨u,by simpa using h1,h2⟩
theorem Vals.append:∀{xs ys:List V} {a ws:List Value},Vals xs a->Vals ys ws->Vals (xs++ys) (a++ws)
 |_,_,_,_,.nil,s=>s
 |_,_,_,_,.cons r t,s=>.cons r (Vals.append t s)
theorem Vals.take:∀{xs:List V} {a:List Value} (n:Nat),Vals xs a->Vals (xs.take n) (a.take n)
 |_,_,0,_=>.nil
 |_,_,_+1,.nil=>.nil
 |_,_,n+1,.cons r t=>.cons r (Vals.take n t)
theorem Vals.drop:∀{xs:List V} {a:List Value} (n:Nat),Vals xs a->Vals (xs.drop n) (a.drop n)
 |_,_,0,r=>r
 |_,_,_+1,.nil=>.nil
 |_,_,n+1,.cons _ t=>Vals.drop n t
def iF:Option V->Option Value->Prop
 |some v,some u=>RelV v u
 |none,none=>True
 |_,_=>False
def KV{κ:Type}:List (κ×V)->List (κ×Value)->Prop:=Paired λ(p:κ×V) (q:κ×Value)=>p.1=q.1/\RelV p.2 q.2
def kV:Key->V
 |.inl i=>.int i
 |.inr x=>.str x
def jP(h:Heap)(a:Addr)(items:Array Value):Prop:=∃n,h.get? a=some {cls:=.type "tuple",data:=.seq items n}
theorem jP.is{h:Heap}{a:Addr}{items:Array Value}(x:jP h a items):IsTup h a items:=let ⟨n,e⟩:=x;⟨_,e,rfl,n,rfl⟩
theorem jP.new(h:Heap)(items:Array Value):jP (h.push {cls:=.type "tuple",data:=.seq items}) h.objs.size items:=⟨0,eT _ rfl⟩
inductive HO where
 |lst (xs:List V)
 |tup (xs:List V)
 |dK (kvs:List (Key×V))|dT (kvs:List (List Key×V))
 |set (S:Int->Bool) (n:Nat)
 |ins (C dx:Addr) (fs:List (Str×V))
 |own (x:Addr)
 |xd (fs:List (Str×V))
 |met (f x:Addr)
 |dP (lo hi:Int)
 |bz (o:Obj) (u:HO)
 |iw (ps:Array Value)
 |ext (φ:Heap->Prop)
abbrev Hp:=Addr->Option HO
def upd(H:Hp)(a:Addr)(o:HO):Hp:=λb=>if b=a then some o else H b
theorem ee{H:Hp}{a:Addr}{o:HO}:upd H a o a=some o:=by unfold upd;rw[aA rfl]
theorem aV{H:Hp}{a b:Addr}{o:HO}(h:b≠a):upd H a o b=H b:=by unfold upd;rw[ay h]
theorem Mf{H:Hp}{a b:Addr}{o u:HO}(h:H a=some o)(h':H b=some u)(d:o≠u):a≠b:=by
 intro e;subst e;rw[h] at h';exact d (Option.some.inj h')
theorem dN{H:Hp}{a b:Addr}{o:HO}(h:H a=some o)(h':H b=none):a≠b:=by
 intro e;subst e;rw[h] at h';cases h'
section
variable(P:Program)(w:World)
def bQ(H:Hp)(h:Heap)(a:Addr):HO->Prop
 | .lst xs=>xs.length<=sizeLine/\∃(its:List Value) (n:Nat),Vals xs its/\h.get? a=some {cls:= .type "list",data:= .seq its.toArray n}
 | .tup xs=>xs.length<=sizeLine/\∃its:List Value,Vals xs its/\jP h a its.toArray
 | .dK kvs=>kvs.length<=sizeLine/\(a==sysModules)=false/\∃vs,KV kvs vs/\h.DictOf (cO P w) a vs
 | .dT kvs=>kvs.length<=sizeLine/\(a==sysModules)=false/\∃xs:List (List Key×Addr×Value),
  Paired (λ(p:List Key×V) (q:List Key×Addr×Value)=>p.1=q.1/\H q.2.1=some (.tup (p.1.map kV))/\RelV p.2 q.2.2) kvs xs/\
  ∃o es ep,h.get? a=some o/\o.ExactDict/\o.data= .dict es ep/\es.toList=xs.map (entryOfKey (tupleKind (cO P w)))/\(xs.map (·.1)).Nodup
 | .set S n=>h.SetOf (intKind P w) a S n
 | .ins C dx fs=>H dx=some (.own a)/\fs.length<=1000/\dx≠a/\h.get? a=some (instObj C dx)/\
  ∃mA,h.Ns1 dx mA/\(∀f,iF (fs.lookup f) (mA f))/\PySem.Within mA (fs.map (·.1))
 | .own _=>∃o,h.get? a=some o
 | .xd fs=>∃mA,h.Ns1 a mA/\∀f,iF (fs.lookup f) (mA f)
 | .dP lo hi=>∃t u v,h.get? a=some {cls:= .type "range",data:= .fields #[.int lo t,.int hi u,.int 1 v]}
 | .bz o u=>h.get? a=some o/\bQ H h a u
 | .iw ps=>h.get? a=some {cls:= .none,data:= .fields ps}
 | .met f x=>h.get? a=some (methodObj (.ref f) (.ref x))
 | .ext φ=>φ h/\(∃o,h.get? a=some o)/\∀h1 h2:Heap,φ h1->(∀o,h1.get? a=some o->h2.get? a=some o)->φ h2
def cy(H:Hp)(h:Heap):Prop:=∀a o,H a=some o->bQ P w H h a o
end
section
variable{P:Program}{w:World}{H H':Hp}{h h':Heap}{a:Addr}{o:HO}
theorem bQ.lt(x:bQ P w H h a o):a<h.objs.size:=by
 cases o with
 |lst xs=>obtain⟨_,_,_,_,e⟩:=x;exact bh e
 |tup xs=>obtain⟨_,_,_,p⟩:=x;exact p.is.lt
 |dK kvs=>obtain⟨_,_,_,_,o,_,_,e,_⟩:=x;exact bh e
 |dT kvs=>obtain⟨_,_,_,_,o,_,_,e,_⟩:=x;exact bh e
 |set S n=>obtain⟨o,_,_,_,e,_⟩:=x;exact bh e
 |ins C dx fs=>obtain⟨_,_,_,e,_⟩:=x;exact bh e
 |own y=>obtain⟨_,e⟩:=x;exact bh e
 |xd fs=>obtain⟨_,⟨_,_,_,e,_⟩,_⟩:=x;exact bh e
 |dP lo hi=>obtain⟨_,_,_,e⟩:=x;exact bh e
 |bz b u=>obtain⟨e,_⟩:=x;exact bh e
 |iw ps=>exact bh (show h.get? a=some _ from x)
 |met f y=>exact bh (show h.get? a=some _ from x)
 |ext c=>obtain⟨_,⟨_,e⟩,_⟩:=x;exact bh e
theorem Paired.jC{α β:Type}{F G:α->β->Prop}:∀{c:List α} {d:List β},Paired F c d->(∀a b,F a b->G a b)->Paired G c d
 |_,_,.nil,_=>.nil
 |_,_,.cons r t,f=>.cons (f _ _ r) (Paired.jC t f)
theorem bQ.stay(x:bQ P w H h a o)(k:∀b u,(b=a\/H b=some (.own a))->h.get? b=some u->h'.get? b=some u)
  (l:∀b,H b=some (.own a)->H' b=some (.own a))(m:∀b xs,H b=some (.tup xs)->H' b=some (.tup xs)):bQ P w H' h' a o:=by
 induction o with
 |lst xs=>obtain⟨z,its,n,r,e⟩:=x;exact⟨z,its,n,r,k _ _ (.inl rfl) e⟩
 |tup xs=>obtain⟨z,its,r,n,e⟩:=x;exact⟨z,its,r,n,k _ _ (.inl rfl) e⟩
 |dK kvs=>obtain⟨z,y,s,r,g,es,ep,e,c⟩:=x;exact⟨z,y,s,r,g,es,ep,k _ _ (.inl rfl) e,c⟩
 |dT kvs=>
  obtain⟨z,y,xs,r,g,es,ep,e,c⟩:=x;exact⟨z,y,xs,Paired.jC r λp q z=>⟨z.1,m _ _ z.2.1,z.2.2⟩,g,es,ep,k _ _ (.inl rfl) e,c⟩
 |set S n=>obtain⟨g,es,ep,t,e,c⟩:=x;exact⟨g,es,ep,t,k _ _ (.inl rfl) e,c⟩
 |ins C dx fs=>
  obtain⟨d,z,ne,e,i,⟨j,es,ep,A,c⟩,r⟩:=x;exact⟨l _ d,z,ne,k _ _ (.inl rfl) e,i,⟨j,es,ep,k _ _ (.inr d) A,c⟩,r⟩
 |own y=>obtain⟨g,e⟩:=x;exact⟨g,k _ _ (.inl rfl) e⟩
 |xd fs=>obtain⟨i,⟨j,es,ep,e,c⟩,r⟩:=x;exact⟨i,⟨j,es,ep,k _ _ (.inl rfl) e,c⟩,r⟩
 |dP lo hi=>obtain⟨t,u,v,e⟩:=x;exact⟨t,u,v,k _ _ (.inl rfl) e⟩
 |bz g u B=>obtain⟨e,q⟩:=x;exact⟨k _ _ (.inl rfl) e,B q⟩
 |iw ps=>
  have e:h.get? a=some {cls:=.none,data:=.fields ps}:=x;show h'.get? a=some {cls:=.none,data:=.fields ps};exact k a _ (.inl rfl) e
 |met f y=>
  have e:h.get? a=some (methodObj (.ref f) (.ref y)):=x;show h'.get? a=some (methodObj (.ref f) (.ref y));exact k a _ (.inl rfl) e
 |ext D=>obtain⟨p,⟨o,e⟩,st⟩:=x;exact⟨st _ _ p λo q=>k _ _ (.inl rfl) q,⟨o,k _ _ (.inl rfl) e⟩,st⟩
theorem cy.lt(x:cy P w H h)(e:H a=some o):a<h.objs.size:=(x a o e).lt
theorem cy.fresh(x:cy P w H h)(e:h.objs.size<=a):H a=none:=by
 cases q:H a with
 |none=>rfl
 |some u=>exact absurd (dz (x.lt q) e) (fV _)
theorem cy.kept(x:cy P w H h)(k:∀b u,h.get? b=some u->h'.get? b=some u):cy P w H h':=λa o e=>
 (x a o e).stay (λb u _ q=>k b u q) (λ_ q=>q) λ_ _ q=>q
theorem cy.laid(x:cy P w H h)(k:∀b u,h.get? b=some u->h'.get? b=some u)(g:h.objs.size<=a)(new:bQ P w (upd H a o) h' a o):cy P w (upd H a o) h':=λb u e=>by
 have d:=x.fresh g;by_cases f:b=a
 .subst f;rw[ee] at e;cases e;exact new
 .rw[aV f] at e
  exact(x b u e).stay (λc v _ q=>k c v q) (λc q=>by rw[aV (dN q d)];exact q) λc xs q=>by rw[aV (dN q d)];exact q
end
def Rd(H:Hp)(a:Addr)(u:HO):Prop:=H a=some u\/∃o,H a=some (.bz o u)
theorem Rd.ok{P:Program}{w:World}{H:Hp}{h:Heap}{a:Addr}{u:HO}(r:Rd H a u)(x:cy P w H h):bQ P w H h a u:=by
 rcases r with r|⟨o,r⟩
 .exact x a u r
 .obtain⟨_,q⟩:=x a _ r
  exact q
def om:Option HO->Prop
 |some (.lst _)=>True
 |some (.dK _)=>True
 |some (.dT _)=>True
 |some (.set _ _)=>True
 |some (.ins _ _ _)=>True
 |some (.ext _)=>True
 |_=>False
section
variable{P:Program}{w:World}{H:Hp}{h h':Heap}{x e:Addr}{o':HO}
theorem cy.write(ok:cy P w H h)(g:om (H x))(l:e=x\/H e=some (.own x))(k:∀b u,b≠e->h.get? b=some u->h'.get? b=some u)(j:∃u,h'.get? e=some u)
  (new:bQ P w (upd H x o') h' x o'):cy P w (upd H x o') h':=λb u q=>by
 have d:∀c y,H c=some (.own y)->c≠x:=λc y r z=>by subst z;rw[r] at g;exact g
 have f:∀c xs,H c=some (.tup xs)->c≠x:=λc xs r z=>by subst z;rw[r] at g;exact g
 by_cases i:b=x
 .subst i;rw[ee] at q;cases q;exact new
 .rw[aV i] at q
  by_cases a:b=e
  .have m:H b=some (.own x):=by
    rcases l with z|z
    .exact absurd (a.trans z) i
    .rw[a];exact z
   rw[q] at m;cases m;obtain⟨v,n⟩:=j;exact⟨v,by rw[a];exact n⟩
  .refine(ok b u q).stay (λc v hc r=>k c v ?_ r) (λc r=>by rw[aV (d c b r)];exact r) λc xs r=>by rw[aV (f c xs r)];exact r
   rcases hc with rfl|hc
   .exact a
   .rintro rfl
    rcases l with z|z
    .exact d c b hc z
    .rw[hc] at z;cases z;exact i rfl
end
structure Un(fs ex:List Addr)(H H':Hp)(h h':Heap):Prop where
 keep:∀b o,h.get? b=some o->H b=none->b∉fs->b∉ex->h'.get? b=some o
 slot:∀b o,h.get? b=some o->H b=none->b∈fs->b∉ex->∃sl,h'.get? b=some {o with slots:=sl}
 free:∀b o,h.get? b=some o->H b=none->b∉ex->H' b=none
 there:∀b o,h.get? b=some o->b∉ex->∃o',h'.get? b=some o'
 tups:∀b xs,H b=some (.tup xs)->H' b=some (.tup xs)
 fQ:∀b o u,H b=some (.bz o u)->H' b=some (.bz o u)
 gv:∀b ps,H b=some (.iw ps)->∃more,H' b=some (.iw (ps++more))
section
variable{fs fs' ex ex':List Addr}{H H1 H2:Hp}{h h1 h2 h':Heap}{a x e:Addr}{o:HO}
theorem Un.any(u:Un fs ex H H1 h h1){b:Addr}{a:Obj}(q:h.get? b=some a)(n:H b=none)(c:b∉ex):∃e,h1.get? b=some {a with slots:=e}:=by
 by_cases d:b∈fs
 .exact u.slot b a q n d c
 .exact⟨a.slots,u.keep b a q n d c⟩
theorem Un.kept(k:∀b u,h.get? b=some u->h'.get? b=some u):Un fs ex H H h h':=
 ⟨λb a q _ _ _=>k b a q,λb a q _ _ _=>⟨a.slots,k b a q⟩,λ_ _ _ n _=>n,λb a q _=>⟨a,k b a q⟩,λ_ _ q=>q,λ_ _ _ q=>q,λ_ ps q=>⟨#[],by rw[q];simp⟩⟩
theorem Un.refl:Un fs ex H H h h:=Un.kept λ_ _ q=>q
theorem Un.laid(k:∀b u,h.get? b=some u->h'.get? b=some u)(d:h.objs.size<=a)(c:H a=none):Un fs ex H (upd H a o) h h' where
 keep:=λb u q _ _ _=>k b u q
 slot:=λb u q _ _ _=>⟨u.slots,k b u q⟩
 free:=λb u q n _=>by rw[aV (cU (dz (bh q) d))];exact n
 there:=λb u q _=>⟨u,k b u q⟩
 tups:=λb xs q=>by rw[aV (dN q c)];exact q
 fQ:=λb u xs q=>by rw[aV (dN q c)];exact q
 gv:=λb ps q=>⟨#[],by rw[aV (dN q c),q];simp⟩
theorem Un.write(c:om (H x))(j:e=x\/H e=some (.own x))(k:∀b u,b≠e->h.get? b=some u->h'.get? b=some u)(d:∃u,h'.get? e=some u):Un fs ex H (upd H x o) h h':=by
 have g:∀b,H b=none->b≠x:=λb n z=>by subst z;rw[n] at c;exact c
 have i:∀b,H b=none->b≠e:=λb n z=>by
  subst z;rcases j with r|r
  .exact g b n r
  .rw[n] at r;cases r
 have f:∀b u,H b=some u->¬om (some u)->b≠x:=λb u q nm z=>by subst z;rw[q] at c;exact nm c
 refine⟨λb u q n _ _=>k b u (i b n) q,λb u q n _ _=>⟨u.slots,k b u (i b n) q⟩,λb u q n _=>by rw[aV (g b n)];exact n,λb u q _=>?_,
  λb xs q=>by rw[aV (f b _ q λz=>z)];exact q,λb u xs q=>by rw[aV (f b _ q λz=>z)];exact q,λb ps q=>⟨#[],by rw[aV (f b _ q λz=>z),q];simp⟩⟩
 by_cases a:b=e
 .subst a;exact d
 .exact⟨u,k b u a q⟩
end
def uq(h:Heap)(H:Hp):List Addr:=(range h.objs.size).filter λa=>(H a).isSome
def jx(h:Heap)(H:Hp):Heap:=hideAll h (uq h H)
theorem Kf(h:Heap)(H:Hp):(jx h H).objs.size=h.objs.size:=PySem.W.hideAll_size _ _
theorem Ke{h:Heap}{H:Hp}{b:Addr}{o:Obj}(e:h.get? b=some o)(n:H b=none):(jx h H).get? b=some o:=
 hideAll_get _ e λa=>by
  have q:(H b).isSome=true:=(mem_filter.mp a).2;rw[n] at q;simp at q
theorem Mv{h:Heap}{H:Hp}{b:Addr}{o:Obj}(e:(jx h H).get? b=some o):h.get? b=some o/\H b=none:=by
 have a:h.get? b=some o:=of_hideAll (uq h H) e;refine⟨a,?_⟩;cases q:H b with
 |none=>rfl
 |some x=>
  have c:b∈uq h H:=mem_filter.mpr ⟨mem_range.mpr (bh a),by simp[q]⟩;have z:(jx h H).get? b=none:=PySem.W.hideAll_none (uq h H) c;rw[z] at e;cases e
structure Mod(K:Frag)(mg:aq)(base:Heap):Prop where
 rW:K.In base
 glob:base.Ns mainGlobals mg
 blt:∃mb,base.Ns builtinsNs mb/\∀x:Str,x≠"__name__"->mb x=bootBuiltins x
 nolimit:base.NoLimit
structure Cx where
 prog:Program
 w:World
 K:Frag
 mg:aq
 base:Heap
 A:Around
 N:List Str
 s₀:Shared
 H₀:Hp
 env:Env
 outer:List Env
 stack:List Env
 ex:List Addr
 fn:Str->Bool
 calm:Bool
 pn:aQ
 xe:bw
def frs(l:List Env):List Addr:=l.filterMap (·.frame)
abbrev Cx.fs(X:Cx):List Addr:=frs X.outer
def mH(sc:Scope)(x:Str):Prop:=sc.names.lookup x=some .local\/sc.names.lookup x=some .cell\/sc.names.lookup x=some .free
def Loc(sc:Scope)(x:Str):Prop:=sc.names.lookup x=some .local\/sc.names.lookup x=some .cell
def Look(env:Env)(h:Heap)(m:aq)(x:Str)(u:Value):Prop:=
 (env.kindOf x=some .local/\m x=some u)\/((env.kindOf x=some .cell\/env.kindOf x=some .free)/\∃c,env.cells.lookup x=some c/\h.IsCell c (some u))
structure Cx.Ok(X:Cx):Prop where
 mod:Mod X.K X.mg X.base
 kind:X.env.scope.kind= .function
 glob:X.env.globals=mainGlobals
 blt:X.env.builtins=builtinsNs
 above:X.s₀.heap.objs.size<=X.env.locals
 inj:∀x y c,X.env.cells.lookup x=some c->X.env.cells.lookup y=some c->x=y
 has:∀x,(X.env.kindOf x=some .cell\/X.env.kindOf x=some .free)->∃c,X.env.cells.lookup x=some c
 qU:∀x c,X.fn x=true->X.env.cells.lookup x=some c->X.s₀.heap.objs.size<=c
 hd:X.calm=true->X.A.handled=none
 frames:X.A.frames=some X.stack
 stk:X.stack=X.outer\/(X.stack=X.env::X.outer/\X.env.frame=some X.env.locals)
 IT:∀b∈X.ex,b≠X.env.locals/\∀x c,X.env.cells.lookup x=some c->c≠b
 bs:∀b o,X.base.get? b=some o->X.s₀.heap.get? b=some o/\X.H₀ b=none
 kI:X.base.objs.size<=X.s₀.heap.objs.size
 sF:∀b o,X.base.get? b=some o->b∉X.ex
 wz:∀b∈X.ex,b∉X.fs
 jb:X.s₀.heap.FunFrames X.base X.outer
 mX:∀b∈X.fs,X.H₀ b=none
structure Inv(X:Cx)(pins:aQ)(σ:List (Option V))(H:Hp)(s:Shared):Prop where
 ok:X.Ok
 os:s.os=X.s₀.os
 bare:AllBare s.gens
 base:Un X.fs X.ex X.H₀ H X.s₀.heap s.heap
 loc:∃m,s.heap.Ns X.env.locals m/\∀(i:Nat) (x:Str) (v:V),X.N[i]? =some x->σ[i]? =some (some v)->mH X.env.scope x->∃u,RelV v u/\Look X.env s.heap m x u
 cell:∀x c,X.env.cells.lookup x=some c->∃v,s.heap.IsCell c v
 free:H X.env.locals=none
 ja:∀x c,X.env.cells.lookup x=some c->H c=none
 pin:∀p∈X.pn++pins,s.heap.get? p.1=some p.2/\H p.1=none/\p.1≠X.env.locals/\p.1∉X.fs/\∀v,p.2.data≠ .cell v
 hok:cy X.prog X.w H s.heap
 len:σ.length=X.N.length
section
variable{X:Cx}{pins:aQ}{σ:List (Option V)}{H H':Hp}{s:Shared}{h':Heap}
theorem Cx.Ok.sG(ok:X.Ok){b:Addr}{o:Obj}(e:X.base.get? b=some o):b∉X.fs:=λa=>by
 have:=(ok.jb.mem a).1;rw[e] at this;cases this
theorem Inv.bs(I:Inv X pins σ H s):∀b o,X.base.get? b=some o->s.heap.get? b=some o/\H b=none:=λb o e=>
 ⟨I.base.keep b o (I.ok.bs b o e).1 (I.ok.bs b o e).2 (I.ok.sG e) (I.ok.sF b o e),I.base.free b o (I.ok.bs b o e).1 (I.ok.bs b o e).2 (I.ok.sF b o e)⟩
theorem Inv.bk(I:Inv X pins σ H s):∀b o,X.base.get? b=some o->s.heap.get? b=some o:=λb o e=>(I.bs b o e).1
theorem Inv.mod(I:Inv X pins σ H s):Mod X.K X.mg X.base:=I.ok.mod
theorem Inv.fc(I:Inv X pins σ H s):X.K.In s.heap:=I.ok.mod.rW.keeps I.bk
theorem Inv.lt(I:Inv X pins σ H s):X.env.locals<s.heap.objs.size:=let ⟨_,a,_⟩:=I.loc;a.lt
theorem Inv.sz(I:Inv X pins σ H s):X.s₀.heap.objs.size<=s.heap.objs.size:=dU I.ok.above (le_of_lt I.lt)
theorem Inv.Mm(I:Inv X pins σ H s){a:Addr}(h:s.heap.objs.size<=a):a∉X.fs:=λb=>by
 obtain⟨_,o,c,_⟩:=I.ok.jb.mem b;exact absurd (dz (bh c) (dU I.sz h)) (fV _)
theorem Inv.kK(I:Inv X pins σ H s):∀x c,X.env.cells.lookup x=some c->c≠X.env.locals:=λx c e z=>by
 obtain⟨v,o,d,hd⟩:=I.cell x c e;obtain⟨m,⟨o',es,ep,a,b,_⟩,_⟩:=I.loc;rw[z,a] at d;cases d;rw[b] at hd;cases hd
theorem Inv.jb(I:Inv X pins σ H s):s.heap.FunFrames X.base X.outer:=by
 have all:∀(l:List Env),(∀b∈frs l,b∈X.fs)->X.s₀.heap.FunFrames X.base l->s.heap.FunFrames X.base l:=by
  intro l;induction l with
  |nil=>intro _ _;trivial
  |cons env r g=>
   intro f hl;obtain⟨h,⟨L,o,a,i,j,hd⟩,k⟩:=hl;have c:L∈X.fs:=f L (by unfold frs;rw[y_,a];exact cR);obtain⟨m,e⟩:=I.base.slot L o j (I.ok.mX L c) c λz=>I.ok.wz L z c;exact⟨h,⟨L,_,a,i,e,hd⟩,g (λb d=>f b (by unfold frs;rw[y_,a];exact cj _ d)) k⟩
 exact all X.outer (λ_ d=>d) I.ok.jb
theorem Inv.stack(I:Inv X pins σ H s):s.heap.FunFrames X.base X.stack:=by
 rcases I.ok.stk with e|⟨e,a⟩
 .rw[e];exact I.jb
 .rw[e]
  obtain⟨m,b,_⟩:=I.loc;refine .cons (by rw[I.ok.kind];decide) a b ?_ I.jb;exact Heap.get?_none_of_le (dU I.ok.kI I.ok.above)
theorem Inv.nE(I:Inv X pins σ H s):∀b∈frs X.stack,b∈X.env.locals::X.fs:=λb a=>by
 rcases I.ok.stk with e|⟨e,c⟩
 .rw[e] at a;exact cj _ a
 .rw[e] at a
  unfold frs at a;rw[y_,c] at a;exact a
theorem Inv.yD(I:Inv X pins σ H s):∀b∈frs X.stack,H b=none:=λb hb=>by
 rcases cu.mp (I.nE b hb) with e|hb
 .rw[e];exact I.free
 .obtain⟨_,o,a,_⟩:=I.ok.jb.mem hb
  exact I.base.free b o a (I.ok.mX b hb) λz=>I.ok.wz b z hb
theorem Inv.step{g':Array GenState}{t':Nat}{d':Drawn}{ch:List Addr}(I:Inv X pins σ H s)
  (f:∀b∈ch,(b∈X.ex\/X.s₀.heap.objs.size<=b)/\b≠X.env.locals/\(∀x c,X.env.cells.lookup x=some c->c≠b)/\∀p∈X.pn++pins,p.1≠b)
  (keep:∀b o,b≠X.env.locals->b∉X.fs->b∉ch->s.heap.get? b=some o->H b=none->h'.get? b=some o)
  (slot:∀b o,b≠X.env.locals->b∈X.fs->b∉ch->s.heap.get? b=some o->H b=none->∃D,h'.get? b=some {o with slots:=D})(free:∀b o,b∉ch->s.heap.get? b=some o->H b=none->H' b=none)
  (there:∀b o,b∉ch->s.heap.get? b=some o->∃o',h'.get? b=some o')
  (tups:∀b xs,H b=some (.tup xs)->H' b=some (.tup xs))(fQ:∀b o u,H b=some (.bz o u)->H' b=some (.bz o u))(gv:∀b ps,H b=some (.iw ps)->∃A,H' b=some (.iw (ps++A)))
  (ns:∀m,s.heap.Ns X.env.locals m->h'.Ns X.env.locals m)(hok:cy X.prog X.w H' h')(J:AllBare g'):
  Inv X pins σ H' {s with heap:=h',gens:=g',drawn:=d',toks:=t'}:=by
 have B:∀b o,X.s₀.heap.get? b=some o->b≠X.env.locals:=λb o e=>cU (dz (bh e) I.ok.above)
 have h:∀b o,X.s₀.heap.get? b=some o->b∉X.ex->b∉ch:=λb o e a t=>by
  rcases (f b t).1 with z|z
  .exact a z
  .exact absurd (dz (bh e) z) (fV _)
 have cellK:∀x c,X.env.cells.lookup x=some c->∀v,s.heap.IsCell c v->h'.IsCell c v:=λx c e v ⟨o,y,hd⟩=>by
  have g:c∉ch:=λz=>(f c z).2.2.1 x c e rfl
  by_cases hc:c∈X.fs
  .obtain⟨D,q⟩:=slot c o (I.kK x c e) hc g y (I.ja x c e)
   exact⟨_,q,hd⟩
  .exact⟨o,keep c o (I.kK x c e) hc g y (I.ja x c e),hd⟩
 refine⟨I.ok,I.os,J,⟨λb o e n t a=> ?_,λb o e n t a=> ?_,λb o e n a=> ?_,λb o e a=> ?_,λb xs e=>tups b xs (I.base.tups b xs e),λb o xs e=>fQ b o xs (I.base.fQ b o xs e),λb ps e=> ?_⟩,?_,λx c e=> ?_,?_,λx c e=> ?_,λp F=> ?_,hok,I.len⟩
 .exact keep b o (B b o e) t (h b o e a) (I.base.keep b o e n t a) (I.base.free b o e n a)
 .obtain⟨D,j⟩:=I.base.slot b o e n t a
  obtain⟨E,C⟩:=slot b _ (B b o e) t (h b o e a) j (I.base.free b o e n a)
  exact⟨E,C⟩
 .obtain⟨o',j⟩:=I.base.there b o e a
  exact free b o' (h b o e a) j (I.base.free b o e n a)
 .obtain⟨o',j⟩:=I.base.there b o e a
  exact there b o' (h b o e a) j
 .obtain⟨K,j⟩:=I.base.gv b ps e
  obtain⟨L,C⟩:=gv b _ j
  exact⟨K++L,by rw[C,Array.append_assoc]⟩
 .obtain⟨m,M,hl⟩:=I.loc
  refine⟨m,ns m M,λi x v j C N=> ?_⟩
  obtain⟨u,r,l⟩:=hl i x v j C N
  refine⟨u,r,?_⟩
  rcases l with l|⟨k,c,e,z⟩
  .exact .inl l
  .exact .inr ⟨k,c,e,cellK x c e _ z⟩
 .obtain⟨v,z⟩:=I.cell x c e
  exact⟨v,cellK x c e v z⟩
 .obtain⟨m,⟨o,_,_,y,_⟩,_⟩:=I.loc
  exact free _ o (λz=>(f _ z).2.1 rfl) y I.free
 .obtain⟨v,o,y,hd⟩:=I.cell x c e
  exact free c o (λz=>(f c z).2.2.1 x c e rfl) y (I.ja x c e)
 .obtain⟨e,n,ne,G,d⟩:=I.pin p F
  have g:p.1∉ch:=λz=>(f p.1 z).2.2.2 p F rfl
  exact⟨keep p.1 p.2 ne G g e n,free p.1 p.2 g e n,ne,G,d⟩
theorem Inv.un{t':Nat}(I:Inv X pins σ H s)(u:Un X.fs [] H H' s.heap h')(hok:cy X.prog X.w H' h'):Inv X pins σ H' {s with heap:=h',toks:=t'}:=by
 obtain⟨m,⟨o,es,ep,g,r⟩,_⟩:=id I.loc;obtain⟨j,h⟩:=u.any g I.free (by simp);exact I.step (g':=s.gens) (d':=s.drawn) (ch:=[]) (λ_ z=>nomatch z) (λb o _ c _ e n=>u.keep b o e n c (by simp)) (λb o _ c _ e n=>u.slot b o e n c (by simp)) (λb o _ e n=>u.free b o e n (by simp)) (λb o _ e=>u.there b o e (by simp)) u.tups u.fQ u.gv (λk i=>by
  obtain⟨o',d,f,a,r'⟩:=i;rw[g] at a;cases a;exact⟨_,d,f,h,r'⟩) hok I.bare
theorem Inv.call{g':Array GenState}{t':Nat}{d':Drawn}{ch:List Addr}(I:Inv X pins σ H s)(u:Un (frs X.stack) ch H H' s.heap h')(hok:cy X.prog X.w H' h')(j:AllBare g')
  (a:∀b∈ch,(b∈X.ex\/X.s₀.heap.objs.size<=b)/\b≠X.env.locals/\(∀x c,X.env.cells.lookup x=some c->c≠b)/\∀p∈X.pn++pins,p.1≠b):
  Inv X pins σ H' {s with heap:=h',gens:=g',drawn:=d',toks:=t'}:=by
 obtain⟨m,⟨o,es,ep,i,r⟩,_⟩:=id I.loc;obtain⟨q,f⟩:=u.any i I.free λz=>(a _ z).2.1 rfl;exact I.step (ch:=ch) a (λb o f k hc e n=>u.keep b o e n (λz=>(cu.mp (I.nE b z)).elim f k) hc) (λb o _ _ hc e n=>u.any e n hc) (λb o hc e n=>u.free b o e n hc) (λb o hc e=>u.there b o e hc) u.tups u.fQ u.gv (λt l=>by
  obtain⟨o',g,h,d,r'⟩:=l;rw[i] at d;cases d;exact⟨_,g,h,f,r'⟩) hok j
theorem Inv.turned{t':Nat}{it:Addr}(I:Inv X pins σ H s)(k:∀b o,b≠it->s.heap.get? b=some o->h'.get? b=some o)(f:H it=none)(d:it≠X.env.locals)
  (h1:it∈X.ex\/X.s₀.heap.objs.size<=it)(h2:∀x c,X.env.cells.lookup x=some c->c≠it)(g:∀p∈X.pn++pins,p.1≠it):Inv X pins σ H {s with heap:=h',toks:=t'}:=by
 have a:∀b u,H b=some u->b≠it:=λb u e z=>by rw[z,f] at e;cases e
 refine I.step (g':=s.gens) (d':=s.drawn) (ch:=[it]) (λb h=>?_) (λb o _ _ hc e _=>k b o (λz=>hc (by simp[z])) e) (λb o _ _ hc e _=>⟨o.slots,k b o (λz=>hc (by simp[z])) e⟩) (λ_ _ _ _ n=>n)
  (λb o hc e=>⟨o,k b o (λz=>hc (by simp[z])) e⟩) (λ_ _ e=>e) (λ_ _ _ e=>e) (λb ps e=>⟨#[],by rw[e];simp⟩) (λm i=>?_) (λb u e=>?_) I.bare
 .have e:b=it:=by simpa using h
  subst e;exact⟨h1,d,h2,g⟩
 .obtain⟨o,es,ep,j,r⟩:=i
  exact⟨o,es,ep,k _ o (Ne.symm d) j,r⟩
 .refine(I.hok b u e).stay (λc v hc q=>k c v ?_ q) (λ_ q=>q) λ_ _ q=>q
  rcases hc with z|z
  .rw[z];exact a b u e
  .exact a c _ z
theorem Inv.tok(I:Inv X pins σ H s)(t:Nat):Inv X pins σ H {s with toks:=t}:=I.un (h':=s.heap) (t':=t) Un.refl I.hok
theorem Inv.kept{t':Nat}(I:Inv X pins σ H s)(k:∀b u,s.heap.get? b=some u->h'.get? b=some u):Inv X pins σ H {s with heap:=h',toks:=t'}:=I.un (Un.kept k) (I.hok.kept k)
theorem Inv.laid{a:Addr}{o:HO}{t':Nat}(I:Inv X pins σ H s)(k:∀b u,s.heap.get? b=some u->h'.get? b=some u)(c:s.heap.objs.size<=a)(new:bQ X.prog X.w (upd H a o) h' a o):
 Inv X pins σ (upd H a o) {s with heap:=h',toks:=t'}:=I.un (Un.laid k c (I.hok.fresh c)) (I.hok.laid k c new)
theorem Inv.write{x e:Addr}{o:HO}{t':Nat}(I:Inv X pins σ H s)(c:om (H x))(d:e=x\/H e=some (.own x))(k:∀b u,b≠e->s.heap.get? b=some u->h'.get? b=some u)(a:∃u,h'.get? e=some u)
 (new:bQ X.prog X.w (upd H x o) h' x o):Inv X pins σ (upd H x o) {s with heap:=h',toks:=t'}:=I.un (Un.write c d k a) (I.hok.write c d k a new)
theorem Inv.weak{σ':List (Option V)}(I:Inv X pins σ H s)(hl:σ'.length=σ.length)(w:∀(i:Nat) v,σ'[i]?=some (some v)->σ[i]?=some (some v)):Inv X pins σ' H s:=
 ⟨I.ok,I.os,I.bare,I.base,let ⟨m,b,a⟩:=I.loc;⟨m,b,λi x v c d e=>a i x v c (w i v d) e⟩,I.cell,I.free,I.ja,I.pin,I.hok,hl.trans I.len⟩
theorem Inv.Ds{a:aQ}(I:Inv X pins σ H s)(h:∀p∈a,s.heap.get? p.1=some p.2/\H p.1=none/\p.1≠X.env.locals/\p.1∉X.fs/\∀v,p.2.data≠ .cell v):Inv X a σ H s:=
 ⟨I.ok,I.os,I.bare,I.base,I.loc,I.cell,I.free,I.ja,λp b=>(ck.mp b).elim (λz=>I.pin p (mC _ z)) (h p),I.hok,I.len⟩
theorem C7{N:List Str}(c:N.Nodup){i j:Nat}{x:Str}(a:N[i]?=some x)(b:N[j]?=some x):i=j:=by
 obtain⟨h1,d⟩:=bR.mp a;obtain⟨h2,e⟩:=bR.mp b;exact(List.getElem_inj c).mp (d.trans e.symm)
theorem Fb {M : Model} {A : Around} {E : bw} {i : Nat} {x : Str} {v : V} {u : Value} {Q : Unit → Shared → Prop} (I : Inv X pins σ H s) (hN : X.N.Nodup) (hi : X.N[i]? = some x) (l : Loc X.env.scope x) (r : RelV v u)
    (h : ∀ s', Inv X pins (σ.set i (some v)) H s' → (∃ a, SameBut a s.heap s'.heap ∧ (a = X.env.locals ∨ X.env.cells.lookup x = some a)) → Q () s') (hf : X.fn x = true ∨ X.env.scope.names.lookup x = some .local := by first | exact .inl rfl | exact .inr rfl | assumption) : wpAny M A (storeName X.env x u) Q E s := by
  obtain ⟨m, S, hl⟩ := id I.loc
  have J : (X.env.scope.kind == .class || (X.env.scope.kind == .module && X.env.locals != X.env.globals)) = false := by rw [I.ok.kind]; rfl
  have C : i < σ.length := by rw [I.len]; exact (bR.mp hi).1
  have kK := I.kK
  have tracked : ∀ {a : Addr} {h' : Heap}, (∃ o, s.heap.get? a = some o ∧ H a = none) → SameBut a s.heap h' → cy X.prog X.w H h' := fun {a h'} ha f b ob e => by
    obtain ⟨_, _, t⟩ := ha
    refine (I.hok b ob e).stay (fun c R hc q => (f.2 c ?_).trans q) (fun _ q => q) fun _ _ q => q
    rintro rfl
    rcases hc with rfl | hc
    · rw [t] at e; cases e
    · rw [t] at hc; cases hc
  rcases l with hk | hk
  · refine wpAny_storeName_local hk S (fun h' T f => ?_) J
    obtain ⟨oL, _, _, U, _⟩ := id S
    refine h _ ⟨I.ok, I.os, I.bare, ⟨fun b o e n D l => ?_, fun b o e n D l => ?_, I.base.free, fun b o e l => ?_, I.base.tups, I.base.fQ, I.base.gv⟩, ⟨_, T, fun j y W g B Y => ?_⟩, fun y c e => ?_, I.free, I.ja, fun p Z => ?_, tracked ⟨oL, U, I.free⟩ f, by simpa using I.len⟩ ⟨_, f, .inl rfl⟩
    · exact (f.2 b (cU (dz (bh e) I.ok.above))).trans (I.base.keep b o e n D l)
    · obtain ⟨sl, g⟩ := I.base.slot b o e n D l
      exact ⟨sl, (f.2 b (cU (dz (bh e) I.ok.above))).trans g⟩
    · obtain ⟨o', g⟩ := I.base.there b o e l
      exact ⟨o', (f.2 b (cU (dz (bh e) I.ok.above))).trans g⟩
    · by_cases F : j = i
      · subst F
        rw [hi] at g; cases g
        rw [fu C] at B
        cases B
        exact ⟨u, r, .inl ⟨hk, by simp⟩⟩
      · rw [fm (Ne.symm F)] at B
        obtain ⟨u', r', q⟩ := hl j y W g B Y
        refine ⟨u', r', ?_⟩
        rcases q with ⟨k, e⟩ | ⟨k, c, e, z⟩
        · refine .inl ⟨k, ?_⟩
          have : y ≠ x := fun e => F (C7 hN g (e ▸ hi))
          simp [this, e]
        · exact .inr ⟨k, c, e, z.sameBut f (kK y c e)⟩
    · obtain ⟨R, z⟩ := I.cell y c e
      exact ⟨R, z.sameBut f (kK y c e)⟩
    · obtain ⟨e, n, ne, nf, d⟩ := I.pin p Z
      exact ⟨(f.2 p.1 ne).trans e, n, ne, nf, d⟩
  · have G : X.fn x = true := by
      rcases hf with z | z
      · exact z
      · rw [z] at hk; cases hk
    obtain ⟨c, hc⟩ := I.ok.has x (.inl hk)
    obtain ⟨R, z⟩ := I.cell x c hc
    refine wpAny_storeName_cell I.ok.kind hk hc z (fun h' K f => ?_)
    obtain ⟨oc, L, O⟩ := id z
    refine h { s with heap := h' } ⟨I.ok, I.os, I.bare, ⟨fun b o e n D l => ?_, fun b o e n D l => ?_, I.base.free, fun b o e l => ?_, I.base.tups, I.base.fQ, I.base.gv⟩, ⟨m, S.sameBut f (Ne.symm (kK x c hc)), fun j y W g B Y => ?_⟩, fun y c' e => ?_, I.free, I.ja, fun p Z => ?_, tracked ⟨oc, L, I.ja x c hc⟩ f, by simpa using I.len⟩ ⟨c, f, .inr hc⟩
    · exact (f.2 b (cU (dz (bh e) (I.ok.qU x c G hc)))).trans (I.base.keep b o e n D l)
    · obtain ⟨sl, g⟩ := I.base.slot b o e n D l
      exact ⟨sl, (f.2 b (cU (dz (bh e) (I.ok.qU x c G hc)))).trans g⟩
    · obtain ⟨o', g⟩ := I.base.there b o e l
      exact ⟨o', (f.2 b (cU (dz (bh e) (I.ok.qU x c G hc)))).trans g⟩
    · by_cases F : j = i
      · subst F
        rw [hi] at g; cases g
        rw [fu C] at B
        cases B
        exact ⟨u, r, .inr ⟨.inl hk, c, hc, K⟩⟩
      · rw [fm (Ne.symm F)] at B
        obtain ⟨u', r', q⟩ := hl j y W g B Y
        refine ⟨u', r', ?_⟩
        rcases q with q | ⟨k, c', e, z'⟩
        · exact .inl q
        · refine .inr ⟨k, c', e, z'.sameBut f ?_⟩
          rintro rfl
          exact F (C7 hN g (I.ok.inj _ _ _ e hc ▸ hi))
    · by_cases P : c' = c
      · subst P; exact ⟨_, K⟩
      · obtain ⟨w2, z2⟩ := I.cell y c' e
        exact ⟨w2, z2.sameBut f P⟩
    · obtain ⟨e, n, ne, nf, d⟩ := I.pin p Z
      refine ⟨(f.2 p.1 ?_).trans e, n, ne, nf, d⟩
      intro q
      rw [q, L] at e
      have q' : oc = p.2 := Option.some.inj e
      exact d R (by rw [← q']; exact O)
theorem p9{M:Model}{A:Around}{E:bw}{i:Nat}{x:Str}{v:V}{u:Value}{Q:Unit->Shared->Prop}(I:Inv X pins σ H s)(a:X.N.Nodup)(hi:X.N[i]?=some x)(b:Loc X.env.scope x)(r:RelV v u)
  (h:∀s',Inv X pins (σ.set i (some v)) H s'->Q () s')(c:X.fn x=true\/X.env.scope.names.lookup x=some .local:=by first|exact .inl rfl|exact .inr rfl|assumption):wpAny M A (storeName X.env x u) Q E s:=
 Fb I a hi b r (λs' d _=>h s' d) c
theorem Inv.G1{s':Shared}{ch:List Addr}(I:Inv X pins σ H s)(d:s'.os=s.os)(u:Un (frs X.stack) ch H H' s.heap s'.heap)(hok:cy X.prog X.w H' s'.heap)(f:AllBare s'.gens)
  (a:∀b∈ch,(b∈X.ex\/X.s₀.heap.objs.size<=b)/\b≠X.env.locals/\(∀x c,X.env.cells.lookup x=some c->c≠b)/\∀p∈X.pn++pins,p.1≠b):Inv X pins σ H' s':=by
 obtain⟨h',g',d',t',o'⟩:=s';have e:o'=s.os:=d;subst e;exact I.call (g':=g') (t':=t') (d':=d') u hok f a
end
abbrev XK:=Value->Option Addr->Hp->Prop
abbrev St:=List (Option V)
abbrev VK:=V->Hp->Prop
abbrev TE:=St->Hp->VK->Prop
abbrev TT:=St->Hp->(Bool->Hp->Prop)->Prop
abbrev TA:=St->Hp->(List V->Hp->Prop)->Prop
structure Ends where
 nx:St->Hp->Prop
 rt:VK
 bk:St->Hp->Prop:=λ_ _=>False
 ct:St->Hp->Prop:=λ_ _=>False
abbrev TS:=Ends->St->Hp->Prop
def EP(X:Cx)(pins:aQ)(σ:St)(Q:VK)(u:Value)(s':Shared):Prop:=∃v H',Inv X pins σ H' s'/\RelV v u/\Q v H'
def TP(X:Cx)(pins:aQ)(σ:St)(Q:Bool->Hp->Prop)(b:Bool)(s':Shared):Prop:=∃H',Inv X pins σ H' s'/\Q b H'
def AP(X:Cx)(pins:aQ)(σ:St)(Q:List V->Hp->Prop)(us:List Value)(s':Shared):Prop:=∃vs H',Inv X pins σ H' s'/\Vals vs us/\Q vs H'
def SP(X:Cx)(pins:aQ)(D:Ends)(f:Flow)(s':Shared):Prop:=
 match f with
 |.next=>∃σ' H',Inv X pins σ' H' s'/\D.nx σ' H'
 |.brk=>∃σ' H',Inv X pins σ' H' s'/\D.bk σ' H'
 |.cont=>∃σ' H',Inv X pins σ' H' s'/\D.ct σ' H'
 |.ret u=>∃v σ' H',Inv X pins σ' H' s'/\RelV v u/\D.rt v H'
def PE(X:Cx)(e:Expr)(t:TE):Prop:=
 ∀(pins:aQ) (s:Shared) (σ:St) (H:Hp) (Q:VK),Inv X pins σ H s->t σ H Q->wpAny (model X.prog X.w) X.A (eval e X.env) (EP X pins σ Q) X.xe s
def PT(X:Cx)(e:Expr)(t:TT):Prop:=
 ∀(pins:aQ) (s:Shared) (σ:St) (H:Hp) (Q:Bool->Hp->Prop),Inv X pins σ H s->t σ H Q->wpAny (model X.prog X.w) X.A (isTrue e X.env (eval e X.env)) (TP X pins σ Q) X.xe s
def PW(X:Cx)(e:Expr)(t:TT):Prop:=
 ∀(whole:Sem Value) (pins:aQ) (s:Shared) (σ:St) (H:Hp) (Q:Bool->Hp->Prop),Inv X pins σ H s->t σ H Q->wpAny (model X.prog X.w) X.A (isTrue e X.env whole) (TP X pins σ Q) X.xe s
theorem PW.pt{X:Cx}{e:Expr}{t:TT}(h:PW X e t):PT X e t:=h _
def PA(X:Cx)(es:List Expr)(t:TA):Prop:=
 ∀(pos:Pos) (pins:aQ) (s:Shared) (σ:St) (H:Hp) (Q:List V->Hp->Prop),Inv X pins σ H s->t σ H Q->wpAny (model X.prog X.w) X.A (spliced (backTo pos (starEach es X.env))) (AP X pins σ Q) X.xe s
def PS(X:Cx)(st:Stmt)(t:TS):Prop:=
 ∀(pins:aQ) (s:Shared) (σ:St) (H:Hp) (D:Ends),Inv X pins σ H s->t D σ H->wpAny (model X.prog X.w) X.A (exec st X.env) (SP X pins D) X.xe s
def dB(X:Cx)(st:List Stmt)(t:TS):Prop:=
 ∀(pins:aQ) (s:Shared) (σ:St) (H:Hp) (D:Ends),Inv X pins σ H s->t D σ H->wpAny (model X.prog X.w) X.A (execs st X.env) (SP X pins D) X.xe s
theorem aK{α:Type}{t:Sem α}{Q b:α->Shared->Prop}{M:Model}{A:Around}{E:bw}{s:Shared}(h:wpAny M A t Q E s)(c:∀a s,Q a s->b a s):wpAny M A t b E s:=nO h c λ_ _ x=>x
section
variable{X:Cx}
def Qv(i:Nat):TE:=λσ H Q=>∃v,σ[i]?=some (some v)/\Q v H
def tC(v:V):TE:=λ_ H Q=>Q v H
theorem Nq{i:Nat}{x:Str}{pos:Pos}(d:X.N[i]?=some x)(f:mH X.env.scope x)(hd:(x==("__debug__":Str))=false:=by decide)(b:(x==("__classdict__":Str))=false:=by decide):PE X (.Name x pos) (Qv i):=by
 intro pins s σ H Q I h;obtain⟨v,e,h⟩:=h;obtain⟨m,g,hl⟩:=I.loc;obtain⟨u,r,l⟩:=hl i x v d e f;have fin:EP X pins σ Q u s:=⟨v,H,I,r,h⟩;rcases l with⟨hk,j⟩|⟨hk,c,hc,a⟩
 .exact wpAny_Name (wpAny_loadName_local I.ok.kind hk g j fin) hd
 .rcases hk with hk|hk
  .exact wpAny_Name (wpAny_loadName_cell I.ok.kind hk hc a fin) hd
  .exact wpAny_Name (wpAny_loadName_free I.ok.kind hk hc a fin b) hd
theorem Nb{i j pos}:PE X (.Constant (.int i) j pos) (tC (.int i)):=λ_ _ _ H _ I h=>wpAny_Constant_int ⟨.int i,H,I.tok _,⟨_,rfl⟩,h⟩
theorem M1{b j pos}:PE X (.Constant (.bool b) j pos) (tC (.bl b)):=λ_ _ _ H _ I h=>Constant_bool ⟨.bl b,H,I,rfl,h⟩
theorem Ng{j pos}:PE X (.Constant .none j pos) (tC .ai):=λ_ _ _ H _ I h=>Constant_none ⟨.ai,H,I,rfl,h⟩
theorem Nl{x j pos}:PE X (.Constant (.str x) j pos) (tC (.str x)):=λ_ _ _ H _ I h=>Calls.Constant_str ⟨.str x,H,I.tok _,⟨_,rfl⟩,h⟩
def Gl(X:Cx)(x:Str):Prop:=X.env.kindOf x=some .globalImplicit
theorem xD{E:bw}{pins:aQ}{s:Shared}{σ:St}{H:Hp}{x:Str}{u:Value}{pos:Pos}{Q:bw}(I:Inv X pins σ H s)(a:Gl X x)(b:X.mg x=some u)(h:Q u s)
  (hd:(x==("__debug__":Str))=false:=by decide):wpAny (model X.prog X.w) X.A (eval (.Name x pos) X.env) Q E s:=
 Calls.Name_function_global I.ok.kind a (Calls.loadGlobal_global (by rw[I.ok.glob];exact I.mod.glob.keeps I.bk) b h) hd
theorem j4{E:bw}{pins:aQ}{s:Shared}{σ:St}{H:Hp}{x:Str}{u:Value}{pos:Pos}{Q:bw}(I:Inv X pins σ H s)(a:Gl X x)(b:X.mg x=none)(c:bootBuiltins x=some u)(h:Q u s)
  (d:x≠"__name__":=by decide)(hd:(x==("__debug__":Str))=false:=by decide):wpAny (model X.prog X.w) X.A (eval (.Name x pos) X.env) Q E s:=by
 obtain⟨mb,h1,h2⟩:=I.mod.blt;exact Calls.Name_function_global I.ok.kind a (Calls.loadGlobal_builtin (by rw[I.ok.glob];exact I.mod.glob.keeps I.bk) b (by rw[I.ok.blt];exact h1.keeps I.bk) ((h2 x d).trans c) h) hd
theorem Na{x:Str}{v:V}{u:Value}{pos:Pos}(a:Gl X x)(b:X.mg x=some u)(r:RelV v u)(hd:(x==("__debug__":Str))=false:=by decide):PE X (.Name x pos) (tC v):=
 λ_ _ _ H _ I h=>xD I a b ⟨v,H,I,r,h⟩ hd
theorem M3{x:Str}{v:V}{u:Value}{pos:Pos}(a:Gl X x)(b:X.mg x=none)(c:bootBuiltins x=some u)(r:RelV v u)(d:x≠"__name__":=by decide)(hd:(x==("__debug__":Str))=false:=by decide):PE X (.Name x pos) (tC v):=
 λ_ _ _ H _ I h=>j4 I a b c ⟨v,H,I,r,h⟩ d hd
variable{a b:Expr}{ta tb:TE}{pos:Pos}
def tB(t:TE):TT:=λσ H Q=>t σ H λx H1=>∃c,x=.bl c/\Q c H1
theorem N8{e:Expr}{t:TE}(h:PE X e t)(a:∀whole,isTrue e X.env whole=(do let v <-whole;standAt e.pos;holding [v] (truthy v)):=by intro _;rfl):PT X e (tB t):=by
 intro pins s σ H Q I b;refine isTrue_plain (aK (h pins s σ H _ I b) λv i ⟨x,H1,c,f,g⟩=>?_) (a _);obtain⟨d,rfl,q⟩:=g;cases f;exact lV ⟨H1,c,q⟩
variable{tA uo:TT}{rest:List Expr}
def P5(t u:TT):TT:=λσ H Q=>t σ H λc H1=>if c=true then u σ H1 Q else Q false H1
def Ql(t u:TT):TT:=λσ H Q=>t σ H λc H1=>if c=true then Q true H1 else u σ H1 Q
def Qk(t:TT):TT:=λσ H Q=>t σ H λc H1=>Q (!c) H1
theorem pw_and1(b:PT X a tA):PW X (.BoolOp .And [a] pos) tA:=by
 intro d pins s σ H Q I h;refine isTrue_and (aK (b pins s σ H Q I h) λc f e=>?_);cases c with
 |true=>exact isTrue_and_nil e
 |false=>exact e
theorem pw_or1(b:PT X a tA):PW X (.BoolOp .Or [a] pos) tA:=by
 intro d pins s σ H Q I h;refine isTrue_or (aK (b pins s σ H Q I h) λc f e=>?_);cases c with
 |false=>exact isTrue_or_nil e
 |true=>exact e
theorem pw_and(f:PT X a tA)(g:PW X (.BoolOp .And (b::rest) pos) uo):PW X (.BoolOp .And (a::b::rest) pos) (P5 tA uo):=by
 intro i pins s σ H Q I h;refine isTrue_and (aK (f pins s σ H _ I h) λc j ⟨H1,d,e⟩=>?_);cases c with
 |true=>exact g i pins j σ H1 Q d e
 |false=>exact⟨H1,d,e⟩
theorem pw_or(f:PT X a tA)(g:PW X (.BoolOp .Or (b::rest) pos) uo):PW X (.BoolOp .Or (a::b::rest) pos) (Ql tA uo):=by
 intro i pins s σ H Q I h;refine isTrue_or (aK (f pins s σ H _ I h) λc j ⟨H1,d,e⟩=>?_);cases c with
 |true=>exact⟨H1,d,e⟩
 |false=>exact g i pins j σ H1 Q d e
theorem N7(b:PT X a tA):PT X (.UnaryOp .Not a pos) (Qk tA):=by
 intro pins s σ H Q I h;exact isTrue_not (b pins s σ H (λc H1=>Q (!c) H1) I h)
def P6(ta tb:TE):TE:=λσ H Q=>ta σ H λx H1=>∃c,x=.bl c/\if c=true then tb σ H1 Q else Q (.bl false) H1
theorem Nh{op}{t:TE}(h:PE X a t):PE X (.BoolOp op [a] pos) t:=λpins s σ H Q I b=>BoolOp_one (h pins s σ H Q I b)
theorem M0(f:PE X a ta)(g:PE X (.BoolOp .And (b::rest) pos) tb):PE X (.BoolOp .And (a::b::rest) pos) (P6 ta tb):=by
 intro pins s σ H Q I h;refine BoolOp_and (aK (f pins s σ H _ I h) λv i ⟨x,H1,e,j,d⟩=>?_);obtain⟨c,rfl,d⟩:=d;cases j;refine lV ?_;cases c with
 |true=>exact g pins i σ H1 Q e d
 |false=>exact⟨.bl false,H1,e,rfl,d⟩
end
def aS(K:Frag)(H:Hp)(a:Addr)(xs:List V):Prop:=
 Rd H a (.lst xs)\/
  ∃(o:Obj) (its:Array Value) (n:Nat),K.lookup a=some o/\o.cls=.type "list"/\o.dict=none/\o.data=.seq its n/\its.size<=sizeLine/\Vals xs its.toList
def bu(K:Frag)(H:Hp)(a:Addr)(xs:List V):Prop:=
 Rd H a (.tup xs)\/
  ∃(o:Obj) (its:Array Value) (n:Nat),K.lookup a=some o/\o.cls=.type "tuple"/\o.data=.seq its n/\its.size<=sizeLine/\Vals xs its.toList
def GG:Value->Option V
 |.none=>some .ai
 |.bool b=>some (.bl b)
 |.int i _=>some (.int i)
 |.str x _=>some (.str x)
 |.bytes b _=>some (.iI b)
 |.float b _=>some (.mW b)
 |.ref a=>some (.ref a)
 |.type n=>some (.ty n)
 |_=>none
theorem RelV.abs{x:V}{u:Value}(r:RelV x u):GG u=some x:=by
 cases x with
 |ai=>cases r;rfl
 |bl _=>cases r;rfl
 |int _=>obtain⟨t,rfl⟩:=r;rfl
 |str _=>obtain⟨t,rfl⟩:=r;rfl
 |iI _=>obtain⟨t,rfl⟩:=r;rfl
 |mW _=>obtain⟨t,rfl⟩:=r;rfl
 |ref _=>cases r;rfl
 |ty _=>cases r;rfl
theorem RelV.inj{x y:V}{u:Value}(r:RelV x u)(q:RelV y u):x=y:=Option.some.inj (r.abs.symm.trans q.abs)
theorem Vals.inj:∀{xs ys:List V} {a:List Value},Vals xs a->Vals ys a->xs=ys
 |_,_,_,.nil,.nil=>rfl
 |_,_,_,.cons r t,.cons r' t'=>by rw[r.inj r',Vals.inj t t']
section
variable{X:Cx}{pins:aQ}{σ:St}{H:Hp}{s:Shared}{a:Addr}{xs ys:List V}
theorem aS.of{K:Frag}(h:H a=some (.lst xs)):aS K H a xs:=.inl (.inl h)
theorem bu.of{K:Frag}(h:H a=some (.tup xs)):bu K H a xs:=.inl (.inl h)
theorem Inv.list(I:Inv X pins σ H s)(h:aS X.K H a xs):∃its:List Value,Vals xs its/\PlainL s.heap a its.toArray/\xs.length<=sizeLine:=by
 rcases h with h|⟨o,its,n,b,hc,hd,c,hz,r⟩
 .obtain⟨z,its,n,r,e⟩:=h.ok I.hok
  exact⟨its,r,⟨_,n,e,rfl,rfl,rfl⟩,z⟩
 .refine⟨its.toList,r,⟨o,n,I.fc a o b,hc,hd,by simpa using c⟩,?_⟩
  have e:=r.length;simp only[uX] at e;omega
theorem Inv.tuple(I:Inv X pins σ H s)(h:bu X.K H a xs):∃its:List Value,Vals xs its/\IsTup s.heap a its.toArray/\xs.length<=sizeLine:=by
 rcases h with h|⟨o,its,n,b,hc,c,hz,r⟩
 .obtain⟨z,its,r,p⟩:=h.ok I.hok
  exact⟨its,r,p.is,z⟩
 .refine⟨its.toList,r,⟨o,I.fc a o b,hc,n,by simpa using c⟩,?_⟩
  have e:=r.length;simp only[uX] at e;omega
theorem Inv.QJ(I:Inv X pins σ H s)(h:H a=some (.tup xs)):∃(its:List Value) (n:Nat),Vals xs its/\s.heap.get? a=some {cls:=.type "tuple",data:=.seq its.toArray n}/\xs.length<=sizeLine:=by
 obtain⟨z,its,r,n,e⟩:=(show bQ X.prog X.w H s.heap a (.tup xs) from I.hok a _ h);exact⟨its,n,r,e,z⟩
theorem Inv.xH(I:Inv X pins σ H s)(h:aS X.K H a xs)(h':aS X.K H a ys):xs=ys:=by
 obtain⟨its,r,⟨o,n,e,_,_,d⟩,_⟩:=I.list h;obtain⟨its',r',⟨o',n',b,_,_,d'⟩,_⟩:=I.list h';rw[e] at b;cases b;rw[d] at d';injection d' with c _;have:its=its':=by simpa using bV toList c
 subst this;exact r.inj r'
theorem Inv.QK(I:Inv X pins σ H s)(h:bu X.K H a xs)(h':bu X.K H a ys):xs=ys:=by
 obtain⟨its,r,⟨o,e,_,n,d⟩,_⟩:=I.tuple h;obtain⟨its',r',⟨o',b,_,n',d'⟩,_⟩:=I.tuple h';rw[e] at b;cases b;rw[d] at d';injection d' with c _;have:its=its':=by simpa using bV toList c
 subst this;exact r.inj r'
end
section
variable{X:Cx}{st:Stmt}{rest:List Stmt}{t u:TS}{e:Expr}{te:TE}{pos:Pos}
def Qh:TS:=λD σ H=>D.nx σ H
def Qq(t u:TS):TS:=λD σ H=>t {D with nx:=u D} σ H
theorem N2:dB X [] Qh:=λ_ _ σ H _ I h=>uH ⟨σ,H,I,h⟩
theorem N1(h1:PS X st t)(h2:dB X rest u):dB X (st::rest) (Qq t u):=by
 intro pins s σ H D I h;refine wpAny_execs_cons (aK (h1 pins s σ H {D with nx:=u D} I h) λf a q=>?_);cases f with
 |next=>
  obtain⟨σ',H',b,q⟩:=q;exact h2 pins a σ' H' D b q
 |ret v=>exact q
 |brk=>exact q
 |cont=>exact q
theorem N3(h1:PS X st t):dB X [st] t:=by
 intro pins s σ H D I h;refine wpAny_execs_cons (aK (h1 pins s σ H D I h) λf a q=>?_);cases f with
 |next=>exact uH q
 |ret v=>exact q
 |brk=>exact q
 |cont=>exact q
theorem Inv.quiet{pins:aQ}{σ:St}{H:Hp}{s:Shared}(I:Inv X pins σ H s):interactive X.env=false:=by simp[interactive,I.ok.kind]
def Qc(te:TE):TS:=λD σ H=>te σ H λ_ H1=>D.nx σ H1
theorem NS(a:PE X e te)(b:swapsWith e none pos.line X.env=pure false:=by rfl):PS X (.Expr e pos) (Qc te):=by
 intro pins s σ H D I h;exact wpAny_Expr_any (aK (a pins s σ H _ I h) λv f ⟨x,H1,c,g,d⟩=>⟨σ,H1,c,d⟩) I.quiet b
def Qo(te:TE):TS:=λD σ H=>te σ H D.rt
theorem NX(a:PE X e te):PS X (.Return (some e) pos) (Qo te):=by
 intro pins s σ H D I h;exact wpAny_Return_some (aK (a pins s σ H _ I h) λv f ⟨x,H1,b,c,d⟩=>⟨x,σ,H1,b,c,d⟩)
def Qe(c:TT)(t u:TS):TS:=λD σ H=>c σ H λb H1=>if b=true then t D σ H1 else u D σ H1
theorem NU{c:Expr}{a b:List Stmt}{tc:TT}(hc:PT X c tc)(i:dB X a t)(j:dB X b u):PS X (.If c a b pos) (Qe tc t u):=by
 intro pins s σ H D I h;refine wpAny_If (aK (hc pins s σ H _ I h) λd e ⟨H1,f,g⟩=>?_);cases d with
 |true=>exact i pins e σ H1 D f g
 |false=>exact j pins e σ H1 D f g
end
abbrev TG:=V->St->Hp->(St->Hp->Prop)->Prop
abbrev iW:=List V->St->Hp->(St->Hp->Prop)->Prop
def PG(X:Cx)(target:Expr)(t:TG):Prop:=
 ∀(pins:aQ) (s:Shared) (σ:St) (H:Hp) (v:V) (u:Value) (Q:St->Hp->Prop),Inv X pins σ H s->RelV v u->t v σ H Q->
  wpAny (model X.prog X.w) X.A (assign target X.env u) (λ_ s'=>∃σ' H',Inv X pins σ' H' s'/\Q σ' H') X.xe s
def iV(X:Cx)(ts:List Expr)(t:iW):Prop:=
 ∀(pins:aQ) (s:Shared) (σ:St) (H:Hp) (vs:List V) (us:List Value) (Q:St->Hp->Prop),Inv X pins σ H s->Vals vs us->t vs σ H Q->
  wpAny (model X.prog X.w) X.A (assignInOrder ((assignEach ts X.env).map (·.2)) us) (λ_ s'=>∃σ' H',Inv X pins σ' H' s'/\Q σ' H') X.xe s
abbrev qM:=V->V->Hp->VK->Prop
def zw(X:Cx)(op:Operator)(t:qM):Prop:=
 ∀(pins:aQ) (s:Shared) (σ:St) (H:Hp) (x y:V) (v u:Value) (Q:VK),Inv X pins σ H s->RelV x v->RelV y u->t x y H Q->
  wpAny (model X.prog X.w) X.A (inplaceOp op v u) (EP X pins σ Q) X.xe s
section
variable{X:Cx}{pos:Pos}
def mZ(i:Nat):TG:=λv σ H Q=>Q (σ.set i (some v)) H
theorem Dq{i:Nat}{x:Str}(a:X.N.Nodup)(hi:X.N[i]?=some x)(b:Loc X.env.scope x)(c:X.fn x=true\/X.env.scope.names.lookup x=some .local:=by first|exact .inl rfl|exact .inr rfl|assumption):PG X (.Name x pos) (mZ i):=by
 intro pins s σ H v u Q I r h;exact wpAny_assign_Name (p9 I a hi b r (λs' d=>⟨_,H,d,h⟩) c)
def BO:iW:=λvs σ H Q=>vs=[]/\Q σ H
def BN(t:TG)(u:iW):iW:=λvs σ H Q=>∃v r,vs=v::r/\t v σ H λσ' H'=>u r σ' H' Q
theorem ny:iV X [] BO:=by
 intro pins s σ H a b Q I r h;obtain⟨e,h⟩:=h;subst e;cases r;exact assignInOrder_nil ⟨σ,H,I,h⟩
theorem gp{e:Expr}{es:List Expr}{t:TG}{u:iW}(h1:PG X e t)(h2:iV X es u)
  (b:(assignEach (e::es) X.env).map (·.2)=assign e X.env::(assignEach es X.env).map (·.2):=by rfl):iV X (e::es) (BN t u):=by
 intro pins s σ H j k Q I r h;obtain⟨v,vr,c,h⟩:=h;subst c;cases r with
 |cons r d=>
  rw[b];refine assignInOrder_cons (aK (h1 pins s σ H _ _ _ I r h) λ_ f ⟨a,H1,g,i⟩=>?_);exact h2 pins f a H1 _ _ Q g d i
def BP(K:Frag)(n:Nat)(t:iW):TG:=λv σ H Q=>∃a xs,v=.ref a/\bu K H a xs/\xs.length=n/\t xs σ H Q
theorem nv{es:List Expr}{k:Nat}{t:iW}{n:Nat}(hc:X.calm=true)(h:iV X es t)
  (g:(assignEach es X.env).length=n:=by rfl)(c:(assignEach es X.env).findIdx? (·.1)=none:=by rfl):PG X (.Tuple es k pos) (BP X.K n t):=by
 intro pins s σ H v u Q I r d;obtain⟨a,xs,i,j,hl,d⟩:=d;subst i;cases r;obtain⟨its,f,l,hz⟩:=I.tuple j;refine assign_Tuple_tuple (I.ok.hd hc) l (by simp[g,<-hl,f.length]) c λh' m=>?_;have p:Inv X pins σ H {s with heap:=h'}:=I.kept (t':=s.toks) λb o e=>m b o (cU (bh e)) e;exact h pins _ σ H xs _ Q p (by simpa using f) d
def um(te:TE)(g:TG):TS:=λD σ H=>te σ H λx H1=>g x σ H1 D.nx
theorem NP{tg e:Expr}{te:TE}{g:TG}(a:PE X e te)(b:PG X tg g)(c:swapsWithSole [tg] e pos.line X.env=pure false:=by rfl)(d:swappedStores [tg] e X.env=pure none:=by rfl)
  (h1:(assignEach [tg] X.env).map (·.2)=[assign tg X.env]:=by rfl):PS X (.Assign [tg] e pos) (um te g):=by
 intro pins s σ H D I h;refine wpAny_Assign_stores (aK (a pins s σ H _ I h) λv f ⟨x,H1,i,j,k⟩=>?_) c d;rw[h1];exact aK (b pins f σ H1 x v _ i j k) λ_ l q=>q
theorem NY{i:Nat}{x:Str}{e:Expr}{te:TE}{pos':Pos}(a:X.N.Nodup)(hi:X.N[i]?=some x)(b:Loc X.env.scope x)(c:PE X e te)(d:swapsWith e (some (.Name x pos')) pos.line X.env=pure false:=by rfl)(f:X.fn x=true\/X.env.scope.names.lookup x=some .local:=by first|exact .inl rfl|exact .inr rfl|assumption):
  PS X (.Assign [.Name x pos'] e pos) (um te (mZ i)):=by
 intro pins s σ H D I h;refine wpAny_Assign_Name (aK (c pins s σ H _ I h) λv m ⟨y,H1,g,j,k⟩=>?_) d;exact p9 g a hi b j (λn l=>⟨_,H1,l,k⟩) f
def Qm(i j:Nat)(ta:TA):TS:=λD σ H=>ta σ H λvs H1=>∃v w,vs=[v,w]/\D.nx ((σ.set i (some v)).set j (some w)) H1
theorem NV{i j:Nat}{x y:Str}{a b:Expr}{ta:TA}{px py pt:Pos}{kt k2 c}(hc:X.calm=true)(r:X.N.Nodup)(hi:X.N[i]? =some x)(B:X.N[j]? =some y)(k:i≠j)
  (t:X.env.scope.names.lookup x=some .local)(u:X.env.scope.names.lookup y=some .local)(C:PA X [a,b] ta)
  (E:swappedStores [.Tuple [.Name x px,.Name y py] kt pt] (.Tuple [a,b] k2 c) X.env=pure (some [x,y]))
  (F:swapsWithSole [.Tuple [.Name x px,.Name y py] kt pt] (.Tuple [a,b] k2 c) pos.line X.env=pure false:=by rfl):
  PS X (.Assign [.Tuple [.Name x px,.Name y py] kt pt] (.Tuple [a,b] k2 c) pos) (Qm i j ta):=by
 intro pins s σ H D I h
 rw[exec_Assign_arm]
 refine aC (uJ ?_)
 rw[F]
 refine aC (aX ?_)
 rw[ay (by decide)]
 refine aC (Tuple_ (aK (C _ pins s σ H _ I h) λG d ⟨T,H1,J,K,l⟩=> ?_))
 obtain⟨v,w,L,l⟩:=l
 subst L
 obtain⟨f,g,rfl,M,m⟩:∃f g,G=[f,g]/\RelV v f/\RelV w g:=by
  cases K with
  |cons p q=>
   cases q with
   |cons O P=>
    cases P
    exact⟨_,_,rfl,p,O⟩
 refine lS ?_ (by show 2<=sizeLine;decide)
 have Q:Inv X pins σ H1 {d with heap:=d.heap.push {cls:= .type "tuple",data:= .seq [f,g].toArray}}:=J.kept (t':=d.toks) λb o e=>bP _ e
 rw[E]
 refine aC (aX ?_)
 show wpAny (model X.prog X.w) X.A (do rule "assign.swapped-stores";let items <-unpackItems (.ref d.heap.objs.size) 2 none;assignInOrder [λv=>bindName X.env y v,λv=>bindName X.env x v] items.reverse;pure Flow.next) _ _ _
 refine aC (wpAny_rule (aC (unpackItems_tuple (items:= #[f,g]) (I.ok.hd hc) (IsTup.new d.heap _) λh' n=> ?_)))
 have R:=Q.kept (h':=h') (t':=d.toks) λb o e=>n b o (cU (bh e)) e
 show wpAny _ _ (assignInOrder [λv=>bindName X.env y v,λv=>bindName X.env x v] [g,f]>>=λ_=>pure Flow.next) _ _ _
 refine aC (assignInOrder_cons (wpAny_bindName (p9 R r B (.inl u) m (λU S=> ?_) (.inr u))))
 refine assignInOrder_cons (wpAny_bindName (p9 S r hi (.inl t) M (λV z=>assignInOrder_nil (aX ?_)) (.inr t)))
 rw[List.set_comm _ _ (Ne.symm k)] at z
 exact⟨_,H1,z,l⟩
def P7(i:Nat)(te:TE)(ti:qM):TS:=λD σ H=>∃x,σ[i]?=some (some x)/\te σ H λy H1=>ti x y H1 λz H2=>D.nx (σ.set i (some z)) H2
theorem NQ{i:Nat}{x:Str}{e:Expr}{te:TE}{op:Operator}{ti:qM}{pos':Pos}(j:X.N.Nodup)(hi:X.N[i]?=some x)(f:Loc X.env.scope x)(n:PE X e te)(o:zw X op ti)(p:X.fn x=true\/X.env.scope.names.lookup x=some .local:=by first|exact .inl rfl|exact .inr rfl|assumption):
  PS X (.AugAssign (.Name x pos') op e pos) (P7 i te ti):=by
 intro pins s σ H D I h;obtain⟨v,q,h⟩:=h;obtain⟨m,t,hl⟩:=I.loc;have g:mH X.env.scope x:=by rcases f with k|k;exact .inl k;exact .inr (.inl k)
 obtain⟨u,r,l⟩:=hl i x v hi q g;refine wpAny_AugAssign_Name ?_;have go:wpAny (model X.prog X.w) X.A (eval e X.env) (λw b=>wpAny (model X.prog X.w) X.A (inplaceOp op u w) (λr d=>wpAny (model X.prog X.w) X.A (storeName X.env x r) (λ_=>SP X pins D .next) X.xe d) X.xe b) X.xe s:=by
  refine aK (n pins s σ H _ I h) λw B ⟨y,H1,C,E,F⟩=>?_;refine aK (o pins B σ H1 v y u w _ C r E F) λz O ⟨P,H2,G,J,K⟩=>?_;exact p9 G j hi f J (λQ L=>⟨_,H2,L,K⟩) p
 rcases l with⟨hk,M⟩|⟨hk,c,hc,a⟩
 .exact wpAny_loadName_local I.ok.kind hk t M go
 .rcases hk with hk|hk
  .exact wpAny_loadName_cell I.ok.kind hk hc a go
  .rcases f with k|k
   .have:X.env.scope.names.lookup x=some .free:=hk
    rw[k] at this;cases this
   .have:X.env.scope.names.lookup x=some .free:=hk
    rw[k] at this;cases this
def K0(f:Int->Int->Int):qM:=λx y H Q=>∃i j,x=.int i/\y=.int j/\Q (.int (f i j)) H
theorem K1:zw X .Add (K0 λi j=>i+j):=by
 intro pins s σ H x y v u Q I a b h;obtain⟨i,j,c,d,q⟩:=h;subst c;subst d;obtain⟨t,rfl⟩:=a;obtain⟨t',rfl⟩:=b;exact iadd_int ⟨.int _,H,I.tok _,⟨_,rfl⟩,q⟩
end
section
variable{X:Cx}{pos:Pos}
def Qw(c:TT)(tb:TS):TS:=λD σ H=>∃W:Nat->St->Hp->Prop,(∃m,W m σ H)/\∀m σ H,W m σ H->
 c σ H λb H1=>if b=true then ∃N:St->Hp->Prop,(∀σ' H',N σ' H'->∃m',m'<m/\W m' σ' H')/\tb {D with nx:=N,ct:=N,bk:=D.nx} σ H1 else D.nx σ H1
theorem NZ{c:Expr}{body:List Stmt}{tc:TT}{tb:TS}(o:PassesOwn (model X.prog X.w) X.A X.env X.xe)(hc:PT X c tc)(r:dB X body tb):PS X (.While c body [] pos) (Qw tc tb):=by
 intro pins s σ H D I h;obtain⟨W,⟨m0,t⟩,turn⟩:=h;refine wpAny_While (codeAny_whileLoop (λn s'=>∃σ' H',Inv X pins σ' H' s'/\W n σ' H') ?_ m0 ⟨σ,H,I,t⟩);rintro n u ⟨d,H1,x,y⟩;refine lU o (aK (hc pins u d H1 _ x (turn n d H1 y)) λb z ⟨H2,p,g⟩=>?_);cases b with
 |true=>
  obtain⟨N,q,g⟩:=g;rw[aA rfl];refine lU o (aK (r pins z d H2 _ p g) λf B i=>?_);cases f with
  |next=>
   obtain⟨a,e,j,n3⟩:=i;obtain⟨k,l,m⟩:=q a e n3;exact⟨k,l,a,e,j,m⟩
  |cont=>
   obtain⟨a,e,j,n3⟩:=i;obtain⟨k,l,m⟩:=q a e n3;exact⟨k,l,a,e,j,m⟩
  |brk=>exact i
  |ret v=>exact i
 |false=>
  rw[ay b9];exact uH ⟨d,H2,p,g⟩
end
structure It where
 go:Nat->Hp->Prop
 uB:Nat->Hp->V->Hp->Prop
 stop:Nat->Hp->Prop
def fX(X:Cx)(pins:aQ)(H:Hp)(b:Addr):Prop:=
 H b=none/\b≠X.env.locals/\b∉X.fs/\(b∈X.ex\/X.s₀.heap.objs.size<=b)/\(∀x c,X.env.cells.lookup x=some c->c≠b)/\∀p∈X.pn++pins,p.1≠b
theorem Inv.jY{X:Cx}{pins:aQ}{σ:St}{H H':Hp}{s:Shared}{b:Addr}(I:Inv X pins σ H s)(a:s.heap.objs.size<=b)(d:H' b=none):fX X pins H' b:=by
 refine⟨d,lQ (dz I.lt a),I.Mm a,.inr (dU I.sz a),λx c e z=>?_,λp f z=>?_⟩
 .obtain⟨v,q⟩:=I.cell x c e
  exact absurd (dz q.lt (by rw[z];exact a)) (fV _)
 .exact absurd (dz (bh (I.pin p f).1) (by rw[z];exact a)) (fV _)
structure Turn(P:Program)(w:World)(K:Frag)(tg:Expr)(J:It)(fp:List Addr)(it:Addr)(tn:Nat->Heap->Prop):Prop where
 mem:it∈fp
 obj:∀i h,tn i h->∀b∈fp,∃o,h.get? b=some o/\∀v,o.data≠ .cell v
 keep:∀i h h',tn i h->(∀b∈fp,∀o,h.get? b=some o->h'.get? b=some o)->tn i h'
 item:∀(X:Cx),X.prog=P->X.w=w->X.K=K->X.calm=true->∀(i:Nat) (pins:aQ) (s:Shared) (σ:St) (H:Hp) (E:bw),Inv X pins σ H s->(∀b∈fp,fX X pins H b)->tn i s.heap->J.go i H->
  wpAny (model P w) X.A (pyNext (.ref it)) (λr s1=>∃u,r=some u/\
   wpAny (model P w) X.A (letOwnedTupleGo tg (.ref it) u) (λ_ s2=>∃x H',Inv X pins σ H' s2/\RelV x u/\J.uB i H x H'/\tn (i+1) s2.heap/\∀b∈fp,H' b=none) E s1) E s
 done:∀(X:Cx),X.prog=P->X.w=w->X.K=K->X.calm=true->∀(i:Nat) (pins:aQ) (s:Shared) (σ:St) (H:Hp) (E:bw),Inv X pins σ H s->(∀b∈fp,fX X pins H b)->tn i s.heap->J.stop i H->
  wpAny (model P w) X.A (pyNext (.ref it)) (λr s1=>r=none/\Inv X pins σ H s1) E s
 self:∀(A:Around) (i:Nat) (s:Shared) (Q:bw) (E:bw),tn i s.heap->Q (.ref it) s->wpAny (model P w) A (pyIter (.ref it)) Q E s
abbrev TI:=St->Hp->(It->Hp->Prop)->Prop
def vh(X:Cx)(pins:aQ)(σ:St)(tg:Expr)(R:It->Hp->Prop)(itv:Value)(s2:Shared):Prop:=
 ∃(it:Addr) (fp:List Addr) (tn:Nat->Heap->Prop) (J:It) (H':Hp),itv=.ref it/\Inv X pins σ H' s2/\Turn X.prog X.w X.K tg J fp it tn/\tn 0 s2.heap/\(∀b∈fp,fX X pins H' b)/\R J H'
def PI(X:Cx)(tg iter:Expr)(wi:TI):Prop:=
 ∀(pins:aQ) (s:Shared) (σ:St) (H:Hp) (R:It->Hp->Prop),Inv X pins σ H s->wi σ H R->
  wpAny (model X.prog X.w) X.A (eval iter X.env) (λv s1=>wpAny (model X.prog X.w) X.A (pyIter v) (vh X pins σ tg R) X.xe s1) X.xe s
theorem o6{M:Model}{A:Around}{E:bw}{s:Shared}{tg:Expr}{it:Addr}{u:Value}{o:Obj}{n:String}{b:Array Value}{Q:Unit->Shared->Prop}(c:s.heap.get? it=some o)(hc:o.cls=.type n)(hd:o.data=.fields b)
  (d:["enumerate","zip","dict_itemiterator","dict_reverseitemiterator","odict_iterator","itertools.zip_longest","itertools.pairwise"].contains n=false)(a:Q () s):wpAny M A (letOwnedTupleGo tg (.ref it) u) Q E s:=by
 unfold letOwnedTupleGo;cases tg<;>first
  |exact aX a
  |(cases u<;>first
    |exact aX a
    |(refine aC (wpAny_load c ?_)
      rw[hc,hd];show wpAny M A (if (["enumerate","zip","dict_itemiterator","dict_reverseitemiterator","odict_iterator","itertools.zip_longest","itertools.pairwise"].contains n&&b[0]? ==some (rawInt _))=true then _ else _) Q E s;rw[ay (by intro h;rw[d,Bool.false_and] at h;cases h)];exact aX a))
def qG(K:Frag)(a:Addr):It:=
 ⟨λi H=>∃xs x,aS K H a xs/\xs[i]?=some x,λi H x H'=>H'=H/\∀xs,aS K H a xs->xs[i]?=some x,λi H=>∃xs,aS K H a xs/\xs.length<=i⟩
def ve(K:Frag)(a:Addr):It:=
 ⟨λi H=>∃xs x,bu K H a xs/\xs[i]?=some x,λi H x H'=>H'=H/\∀xs,bu K H a xs->xs[i]?=some x,λi H=>∃xs,bu K H a xs/\xs.length<=i⟩
def qH(lo:Int)(n:Nat):It:=⟨λi _=>i<n,λi H x H'=>H'=H/\x=.int (lo+i),λi _=>n<=i⟩
theorem QN{P:Program}{w:World}{K:Frag}{tg:Expr}(a it:Addr):Turn P w K tg (qG K a) [it] it (λi h=>h.IsListIter it a i) where
 mem:=by simp
 obj:=λi h st b f=>by
  have e:b=it:=by simpa using f
  subst e
  obtain⟨o,e,c,d⟩:=st
  exact⟨o,e,λv z=>by rw[d] at z;cases z⟩
 keep:=λi h h' st k=>st.at λo e=>k it (by simp) o e
 item:=by
  intro X m n q hc i pins s σ H E I j st r
  subst m n q
  obtain⟨xs,x,l,t⟩:=r
  obtain⟨its,y,p,hz⟩:=I.list l
  obtain⟨u,C,D⟩:=y.get t
  obtain⟨f0,f1,f2,A,f4,B⟩:=j it (by simp)
  refine wpAny_pyNext_list_item st p.isList (x:=u) (by simpa using C) λh' g F=> ?_
  have G:Inv X pins σ H {s with heap:=h'}:=I.turned (t':=s.toks) (λb o f e=>(F.2 b f).trans e) f0 f1 A f4 B
  obtain⟨o,e,c,d⟩:=id g
  exact⟨u,rfl,o6 (s:={s with heap:=h'}) e c d (by decide) ⟨x,H,G,D,⟨rfl,λys J=>by rw[I.xH J l];exact t⟩,g,λb f=>(j b f).1⟩⟩
 done:=by
  intro X m n q hc i pins s σ H E I j st r
  subst m n q
  obtain⟨xs,l,t⟩:=r
  obtain⟨its,y,p,hz⟩:=I.list l
  obtain⟨f0,f1,f2,A,f4,B⟩:=j it (by simp)
  have hl:=y.length
  exact wpAny_pyNext_list_end (I.ok.hd hc) st p.isList (by simp;omega) λh' L=>⟨rfl,I.turned (t':=s.toks) (λb o f e=>L b o f e) f0 f1 A f4 B⟩
 self:=λ_ _ _ _ _ st h=>wpAny_pyIter_listiter st h
theorem QV{P:Program}{w:World}{K:Frag}{tg:Expr}(a it:Addr):Turn P w K tg (ve K a) [it] it (λi h=>h.IsTupleIter it a i) where
 mem:=by simp
 obj:=λi h st b f=>by
  have e:b=it:=by simpa using f
  subst e
  obtain⟨o,e,c,d⟩:=st
  exact⟨o,e,λv z=>by rw[d] at z;cases z⟩
 keep:=λi h h' st k=>st.at λo e=>k it (by simp) o e
 item:=by
  intro X m n q hc i pins s σ H E I j st r
  subst m n q
  obtain⟨xs,x,l,t⟩:=r
  obtain⟨its,y,p,hz⟩:=I.tuple l
  obtain⟨u,C,D⟩:=y.get t
  obtain⟨f0,f1,f2,A,f4,B⟩:=j it (by simp)
  refine wpAny_pyNext_tuple_item st (show s.heap.IsTuple a its.toArray from p) (x:=u) (by simpa using C) λh' g F=> ?_
  have G:Inv X pins σ H {s with heap:=h'}:=I.turned (t':=s.toks) (λb o f e=>(F.2 b f).trans e) f0 f1 A f4 B
  obtain⟨o,e,c,d⟩:=id g
  exact⟨u,rfl,o6 (s:={s with heap:=h'}) e c d (by decide) ⟨x,H,G,D,⟨rfl,λys J=>by rw[I.QK J l];exact t⟩,g,λb f=>(j b f).1⟩⟩
 done:=by
  intro X m n q hc i pins s σ H E I j st r
  subst m n q
  obtain⟨xs,l,t⟩:=r
  obtain⟨its,y,p,hz⟩:=I.tuple l
  obtain⟨f0,f1,f2,A,f4,B⟩:=j it (by simp)
  have hl:=y.length
  exact wpAny_pyNext_tuple_end (I.ok.hd hc) st (show s.heap.IsTuple a its.toArray from p) (by simp;omega) λh' L=>⟨rfl,I.turned (t':=s.toks) (λb o f e=>L b o f e) f0 f1 A f4 B⟩
 self:=λ_ _ _ _ _ st h=>wpAny_pyIter_tupleiter st h
theorem QS{P:Program}{w:World}{K:Frag}{tg:Expr}(it:Addr)(lo:Int)(n:Nat):Turn P w K tg (qH lo n) [it] it (λi h=>IsRangeIter h it (lo+(i:Nat)*1) ((n:Int) - (i:Nat)) 1) where
 mem:=by simp
 obj:=λi h st b a=>by
  have e:b=it:=by simpa using a
  subst e
  exact⟨_,st,λv z=>by
   have r:Data.fields _=Data.cell v:=z
   cases r⟩
 keep:=λi h h' st k=>k it (by simp) _ st
 item:=by
  intro X f g j hc i pins s σ H E I d st l
  subst f g j
  obtain⟨f0,f1,f2,m,f4,p⟩:=d it (by simp)
  have W:=Walks.range (prog:=X.prog) (w:=X.w) (I.ok.hd hc) it lo 1 n
  refine W.item i s _ _ l st λv h' q u c x=> ?_
  obtain⟨t,rfl⟩:=u
  have y:Inv X pins σ H {s with heap:=h',toks:=q}:=I.turned (λb o a e=>x b o (by simpa using a) e) f0 f1 m f4 p
  refine⟨_,rfl,o6 (s:={s with heap:=h',toks:=q}) (n:="range_iterator") c rfl rfl (by decide) ⟨.int (lo+i),H,y,⟨t,?_⟩,⟨rfl,rfl⟩,c,λb a=>(d b a).1⟩⟩
  rw[Int.mul_one]
 done:=by
  intro X f g j hc i pins s σ H E I d st l
  subst f g j
  obtain⟨f0,f1,f2,m,f4,p⟩:=d it (by simp)
  exact wpAny_pyNext_range_end (I.ok.hd hc) st (by have:n<=i:=l;omega) λh' A=>⟨rfl,I.turned (t':=s.toks) (λb o a e=>A b o a e) f0 f1 m f4 p⟩
 self:=λ_ _ _ _ _ st h=>wpAny_pyIter_rangeiter st h
section
variable{X:Cx}{tg:Expr}
theorem Oj{pins:aQ}{σ:St}{H:Hp}{s:Shared}{R:It->Hp->Prop}{E:bw}{lo hi:Int}{t u v:Tok}{a:Nat}(I:Inv X pins σ H s)(h1: -(2 ^ 62)<=lo)(h2:lo<2 ^ 62)(d: -(2 ^ 62)<=hi)(f:hi<2 ^ 62)
  (q:R (qH lo (hi - lo).toNat) H):wpAny (model X.prog X.w) X.A (pyIter (.ref s.heap.objs.size)) (vh X pins σ tg R) E {s with heap:=s.heap.push {cls:=.type "range",data:=.fields #[.int lo t,.int hi u,.int 1 v]},toks:=a}:=by
 refine wpAny_pyIter_range (IsRange.new ..) (small_one h1 h2 d f) ?_;have c:Inv X pins σ H {s with heap:=s.heap.push {cls:=.type "range",data:=.fields #[.int lo t,.int hi u,.int 1 v]},toks:=a}:=I.kept λb o e=>bP _ e;refine⟨(s.heap.push {cls:=.type "range",data:=.fields #[.int lo t,.int hi u,.int 1 v]}).objs.size,[(s.heap.push {cls:=.type "range",data:=.fields #[.int lo t,.int hi u,.int 1 v]}).objs.size],_,_,H,rfl,
  c.kept (t':=a) λb o e=>bP _ e,QS _ lo (hi - lo).toNat,?_,λb g=>?_,q⟩
 .have h:lo+((0:Nat):Int)*1=lo:=by simp
  have i:(((hi - lo).toNat:Nat):Int) - ((0:Nat):Int)=Builtin.Range.rangeSize lo hi 1:=by rw[rangeSize_one];split<;>omega
  show IsRangeIter _ _ (lo+((0:Nat):Int)*1) ((((hi - lo).toNat:Nat):Int) - ((0:Nat):Int)) 1;rw[h,i];exact eT _ rfl
 .have e:b=(s.heap.push {cls:=.type "range",data:=.fields #[.int lo t,.int hi u,.int 1 v]}).objs.size:=by simpa using g
  subst e;exact c.jY (aI _) (c.hok.fresh (aI _))
def KJ(ta:TA):TI:=λσ H R=>ta σ H λvs H1=>∃j:Int,vs=[.int j]/\-(2 ^ 62)<=j/\j<2 ^ 62/\R (qH 0 j.toNat) H1
theorem Nu{a:Expr}{ta:TA}{p pos:Pos}(c:Gl X "range")(d:X.mg "range"=none)(f:PA X [a] ta)(g:starEach [a] X.env=[(false,eval a X.env)]:=by rfl):PI X tg (.Call (.Name "range" p) [a] [] pos) (KJ ta):=by
 intro pins s σ H R I h;refine Call_ (j4 I c d boot_range (nJ (aK (f pos pins s σ H _ I h) λn o ⟨u,H1,i,k,b⟩=>?_) g rfl));obtain⟨j,e,b,l,q⟩:=b;subst e;cases k with
 |cons r m=>
  cases m;obtain⟨t,rfl⟩:=r;exact call_range_1 (Oj i (by omega) (by omega) b l (by simpa using q))
def Qd(wi:TI)(g:TG)(tb:TS):TS:=λD σ H=>wi σ H λJ H1=>∃W:Nat->Nat->St->Hp->Prop,(∃m,W 0 m σ H1)/\∀i m σ H,W i m σ H->
 (J.stop i H/\D.nx σ H)\/(J.go i H/\∃N:St->Hp->Prop,(∀σ' H',N σ' H'->∃m',m'<m/\W (i+1) m' σ' H')/\∀x H',J.uB i H x H'->g x σ H' λσ2 H2=>tb {D with nx:=N,ct:=N,bk:=D.nx} σ2 H2)
def pS(fp:List Addr)(h:Heap):aQ:=fp.filterMap λb=>(h.get? b).map λo=>(b,o)
theorem sy{fp:List Addr}{h:Heap}{b:Addr}{o:Obj}(a:b∈fp)(e:h.get? b=some o):(b,o)∈pS fp h:=qi.mpr ⟨b,a,by rw[e];rfl⟩
theorem Mw{fp:List Addr}{h:Heap}{p:Addr×Obj}(a:p∈pS fp h):p.1∈fp/\h.get? p.1=some p.2:=by
 obtain⟨b,c,e⟩:=qi.mp a;cases q:h.get? b with
 |none=>rw[q] at e;cases e
 |some o=>
  rw[q] at e;have d:(b,o)=p:=Option.some.inj e;subst d;exact⟨c,q⟩
theorem Inv.pinned{pins:aQ}{σ:St}{H:Hp}{s:Shared}{fp:List Addr}(I:Inv X pins σ H s)(f:∀b∈fp,fX X pins H b)(g:∀b∈fp,∃o,s.heap.get? b=some o/\∀v,o.data≠ .cell v):Inv X (pins++pS fp s.heap) σ H s:=
 I.Ds λp h=>(ck.mp h).elim (λz=>I.pin p (gP _ z)) λz=>by
  obtain⟨a,e⟩:=Mw z;obtain⟨f0,f1,f2,_⟩:=f p.1 a;obtain⟨o,c,d⟩:=g p.1 a;rw[e] at c;cases c;exact⟨e,f0,f1,f2,d⟩
theorem Inv.qe{pins pl:aQ}{σ:St}{H:Hp}{s:Shared}(I:Inv X (pins++pl) σ H s):Inv X pins σ H s:=I.Ds λp a=>I.pin p (gP _ (mC _ a))
theorem NT{iter:Expr}{body:List Stmt}{wi:TI}{g:TG}{tb:TS}{pos:Pos}(y:PassesOwn (model X.prog X.w) X.A X.env X.xe)(hc:X.calm=true)(hi:PI X tg iter wi)(S:PG X tg g)(c:dB X body tb)
  (U:∀x,foldedSetIterable iter X.env x=pure x:=by intro _;rfl):PS X (.For tg iter body [] pos) (Qd wi g tb):=by
 intro pins s σ H D I h;refine wpAny_For (aK (hi pins s σ H _ I h) λv s1 h1=>aK h1 λV s2 h2=>?_) U;obtain⟨it,fp,O,J,H2,e,Y,T,E,f2,W,⟨m0,Z⟩,turn⟩:=h2;subst e;have j:∀{H':Hp},(∀b∈fp,H' b=none)->∀b∈fp,fX X pins H' b:=λhn b c=>⟨hn b c,(f2 b c).2⟩;refine codeAny_forLoop_any (λn s'=>∃i σ' H',Inv X pins σ' H' s'/\O i s'.heap/\(∀b∈fp,H' b=none)/\W i n σ' H') ?_ m0 ⟨0,σ,H2,Y,E,λb c=>(f2 b c).1,Z⟩;rintro n P ⟨i,k,C,Q,z,B,w3⟩;rcases turn i n k C w3 with⟨stop,qn⟩|⟨go,N,hN,step⟩
 .refine lU y (aK (T.done X rfl rfl rfl hc i pins P k C X.xe Q (j B) z stop) λr s4 ⟨F,I4⟩=>?_)
  subst F;exact uH ⟨k,C,I4,qn⟩
 .refine lU y (aK (T.item X rfl rfl rfl hc i pins P k C X.xe Q (j B) z go) λr s4 ⟨u,F,h4⟩=>?_)
  subst F;refine lU y (aK h4 λ_ s5 ⟨x,R,I5,r5,y5,t,G⟩=>?_);have K:=I5.pinned (j G) (T.obj _ _ t);refine lU y (aK (S _ s5 k R x u _ K r5 (step x R y5)) λ_ s6 ⟨L,H6,I6,q6⟩=>?_);refine lU y (aK (c _ s6 L H6 _ I6 q6) λf M q=>?_);have again:∀{a:St} {l:Hp},Inv X (pins++pS fp s5.heap) a l M->N a l->∃m,m<n/\∃i σ' H',Inv X pins σ' H' M/\O i M.heap/\(∀b∈fp,H' b=none)/\W i m σ' H':=λ {a l} p n7=>by
   obtain⟨m',hm,w7⟩:=hN a l n7;refine⟨m',hm,i+1,a,l,p.qe,T.keep _ _ _ t λb c o e=>(p.pin (b,o) (gP _ (gP _ (sy c e)))).1,λb c=>?_,w7⟩;obtain⟨o,e,d⟩:=T.obj _ _ t b c;exact(p.pin (b,o) (gP _ (gP _ (sy c e)))).2.1
  cases f with
  |next=>obtain⟨a,l,p,n7⟩:=q;exact again p n7
  |cont=>obtain⟨a,l,p,n7⟩:=q;exact again p n7
  |brk=>obtain⟨a,l,p,q⟩:=q;exact⟨a,l,p.qe,q⟩
  |ret v=>obtain⟨x7,a,l,p,r7,q⟩:=q;exact⟨x7,a,l,p.qe,r7,q⟩
end
abbrev R2:=V->V->Hp->VK->Prop
def a_(X:Cx)(f:Value->Value->Sem Value)(r:R2):Prop:=
 ∀(pins:aQ) (s:Shared) (σ:St) (H:Hp) (x y:V) (v u:Value) (Q:VK),Inv X pins σ H s->RelV x v->RelV y u->r x y H Q->
  wpAny (model X.prog X.w) X.A (f v u) (EP X pins σ Q) X.xe s
def vv(X:Cx)(f:Value->Sem Value)(r:V->Hp->VK->Prop):Prop:=
 ∀(pins:aQ) (s:Shared) (σ:St) (H:Hp) (x:V) (v:Value) (Q:VK),Inv X pins σ H s->RelV x v->r x H Q->
  wpAny (model X.prog X.w) X.A (f v) (EP X pins σ Q) X.xe s
def eU(X:Cx)(f:Value)(r:List V->Hp->VK->Prop):Prop:=
 ∀(pins:aQ) (s:Shared) (σ:St) (H:Hp) (xs:List V) (us:List Value) (Q:VK),Inv X pins σ H s->Vals xs us->r xs H Q->
  wpAny (model X.prog X.w) X.A (call f us) (EP X pins σ Q) X.xe s
def p_(r:R2)(ta tb:TE):TE:=λσ H Q=>ta σ H λx H1=>tb σ H1 λy H2=>r x y H2 Q
def Qu(r:V->Hp->VK->Prop)(ta:TE):TE:=λσ H Q=>ta σ H λx H1=>r x H1 Q
def rI(C:Int->Int->Prop)(g:Int->Int->V):R2:=λx y H Q=>∃i j,x=.int i/\y=.int j/\C i j/\Q (g i j) H
def ig(g:Int->Int->V):R2:=λx y H Q=>∃i j,x=.int i/\y=.int j/\Q (g i j) H
def rU(g:Int->V):V->Hp->VK->Prop:=λx H Q=>∃i,x=.int i/\Q (g i) H
section
variable{X:Cx}{a b c:Expr}{ta tb tc:TE}{pos:Pos}
theorem vI(g:PE X a ta)(i:PE X b tb){pins:aQ}{s:Shared}{σ:St}{H:Hp}{R:V->V->Hp->Prop}(I:Inv X pins σ H s)
  (h:ta σ H λx H1=>tb σ H1 λy H2=>R x y H2){Q:bw}{f:Value->Value->Sem Value}
  (j:∀v u e x y H2,Inv X pins σ H2 e->RelV x v->RelV y u->R x y H2->wpAny (model X.prog X.w) X.A (f v u) Q X.xe e):
  wpAny (model X.prog X.w) X.A (eval a X.env) (λv c=>wpAny (model X.prog X.w) X.A (eval b X.env) (λu d=>wpAny (model X.prog X.w) X.A (f v u) Q X.xe d) X.xe c) X.xe s:=by
 refine aK (g pins s σ H _ I h) λv k ⟨x,H1,l,m,n⟩=> ?_
 refine aK (i pins k σ H1 _ l n) λu e ⟨y,H2,o,p,q⟩=> ?_
 exact j v u e x y H2 o m p q
theorem Ni{op:Operator}{r:R2}(c:a_ X (binaryOp op) r)(d:PE X a ta)(e:PE X b tb):PE X (.BinOp a op b pos) (p_ r ta tb):=by
 intro pins s σ H Q I h;exact wpAny_BinOp (vI d e I h λv u f x y H2 g i j q=>c pins f σ H2 x y v u Q g i j q)
theorem Np{op:UnaryOp}{r:V->Hp->VK->Prop}(b:vv X (unaryOp op) r)(c:PE X a ta):PE X (.UnaryOp op a pos) (Qu r ta):=by
 intro pins s σ H Q I h;exact UnaryOp_ (aK (c pins s σ H _ I h) λv d ⟨x,H1,e,f,g⟩=>b pins d σ H1 x v Q e f g)
theorem ya{f:Value->Value->Sem Value}{C:Int->Int->Prop}{g:Int->Int->Int}
  (rule:∀(i j:Int) (t u:Tok) (s:Shared) (Q:bw) (E:bw),C i j->Q (.int (g i j) s.toks) {s with toks:=s.toks+1}->wpAny (model X.prog X.w) X.A (f (.int i t) (.int j u)) Q E s):
  a_ X f (rI C λi j=>.int (g i j)):=by
 intro pins s σ H x y v u Q I a b h;obtain⟨i,j,rfl,rfl,hc,q⟩:=h;obtain⟨t,rfl⟩:=a;obtain⟨t',rfl⟩:=b;exact rule i j t t' s _ _ hc ⟨.int (g i j),H,I.tok _,⟨_,rfl⟩,q⟩
theorem De{f:Value->Value->Sem Value}{g:Int->Int->Int}
  (rule:∀(i j:Int) (t u:Tok) (s:Shared) (Q:bw) (E:bw),Q (.int (g i j) s.toks) {s with toks:=s.toks+1}->wpAny (model X.prog X.w) X.A (f (.int i t) (.int j u)) Q E s):
  a_ X f (ig λi j=>.int (g i j)):=by
 intro pins s σ H x y v u Q I a b h;obtain⟨i,j,rfl,rfl,q⟩:=h;obtain⟨t,rfl⟩:=a;obtain⟨t',rfl⟩:=b;exact rule i j t t' s _ _ ⟨.int (g i j),H,I.tok _,⟨_,rfl⟩,q⟩
theorem x_{f:Value->Value->Sem Value}{g:Int->Int->Bool}
  (rule:∀(i j:Int) (t u:Tok) (s:Shared) (Q:bw) (E:bw),Q (.bool (g i j)) s->wpAny (model X.prog X.w) X.A (f (.int i t) (.int j u)) Q E s):
  a_ X f (ig λi j=>.bl (g i j)):=by
 intro pins s σ H x y v u Q I a b h;obtain⟨i,j,rfl,rfl,q⟩:=h;obtain⟨t,rfl⟩:=a;obtain⟨t',rfl⟩:=b;exact rule i j t t' s _ _ ⟨.bl (g i j),H,I,rfl,q⟩
def qB(i j:Int):Prop:=(-(2 ^ 64)<i/\i<2 ^ 64)\/(-(2 ^ 64)<j/\j<2 ^ 64)
theorem qB.ok{i j:Int}(h:qB i j):IntMulOk i j:=by
 rcases h with⟨h1,h2⟩|⟨h1,h2⟩
 .exact .of_left (intBits_le_64 h1 h2)
 .exact .of_right (intBits_le_64 h1 h2)
theorem Mz:a_ X (binaryOp .Add) (ig λi j=>.int (i+j)):=De λ_ _ _ _ _ _ _ q=>add_int q
theorem MX:a_ X (binaryOp .Sub) (ig λi j=>.int (i - j)):=De λ_ _ _ _ _ _ _ q=>sub_int q
theorem MR:a_ X (binaryOp .Mult) (rI qB λi j=>.int (i*j)):=ya λ_ _ _ _ _ _ _ hc q=>mul_int q hc.ok
theorem MQ:a_ X (binaryOp .Mod) (rI (λ_ j=>0<j) λi j=>.int (i%j)):=ya λi j _ _ _ _ _ hc q=>by
 have h1:(0:Int)<j:=hc;exact mod_int' (by omega) (by rw[Int.fmod_eq_emod_of_nonneg i (by omega)];exact q)
theorem QZ{f:Value->Sem Value}{g:Int->Int}
  (rule:∀(i:Int) (t:Tok) (s:Shared) (Q:bw) (E:bw),Q (.int (g i) s.toks) {s with toks:=s.toks+1}->wpAny (model X.prog X.w) X.A (f (.int i t)) Q E s):
  vv X f (rU λi=>.int (g i)):=by
 intro pins s σ H x v Q I a h;obtain⟨i,rfl,q⟩:=h;obtain⟨t,rfl⟩:=a;exact rule i t s _ _ ⟨.int (g i),H,I.tok _,⟨_,rfl⟩,q⟩
theorem Q0:vv X (unaryOp .USub) (rU λi=>.int (-i)):=QZ λ_ _ _ _ _ q=>neg_int q
end
def E5:V->V->Bool
 |.ai,.ai=>true|.ai,.int _=>true|.int _,.ai=>true|.ai,.bl _=>true|.bl _,.ai=>true|.ai,.str _=>true|.str _,.ai=>true
 |.int _,.int _=>true|.bl _,.bl _=>true|.str _,.str _=>true|.iI _,.iI _=>true
 |.int _,.str _=>true|.str _,.int _=>true|.bl _,.str _=>true|.str _,.bl _=>true
 |_,_=>false
def yj:R2:=λx y H Q=>E5 x y=true/\Q (.bl (decide (x=y))) H
def yo:R2:=λx y H Q=>E5 x y=true/\Q (.bl (!decide (x=y))) H
theorem Ba{i j:Int}:decide (V.int i=V.int j)=(i==j):=by
 rw[mz];simp
theorem AZ{i j:Bool}:decide (V.bl i=V.bl j)=(i==j):=by
 rw[mz];simp
theorem Bb{i j:Str}:decide (V.str i=V.str j)=(i==j):=by
 rw[mz];simp
theorem A_{i j:Array UInt8}:decide (V.iI i=V.iI j)=(i.toList==j.toList):=by
 rw[mz];cases i;cases j;simp
section
variable{X:Cx}{a b c:Expr}{ta tb tc:TE}{pos:Pos}
theorem bZ{pins:aQ}{σ:St}{H:Hp}{s:Shared}{Q:VK}{k a:Bool}(I:Inv X pins σ H s)(q:Q (.bl k) H)(e:k=a):EP X pins σ Q (.bool a) s:=by
 subst e;exact⟨.bl k,H,I,rfl,q⟩
theorem MG:a_ X (compareOp .Eq) yj:=by
 intro pins s σ H x y v u Q I c a h;obtain⟨b,q⟩:=h;cases x with
 |ai=>
  cases c;cases y with
  |ai=>cases a;exact PySem.EqNone.eq_none_none (bZ I q (by simp))
  |bl j=>cases a;exact PySem.EqNone.eq_none_bool (bZ I q (by simp))
  |int j=>obtain⟨t',rfl⟩:=a;exact PySem.EqNone.eq_none_int (bZ I q (by simp))
  |str j=>obtain⟨t',rfl⟩:=a;exact PySem.EqNone.eq_none_str (bZ I q (by simp))
  |_=>exact absurd (show false=true from b) b9
 |bl i=>
  cases c;cases y with
  |ai=>cases a;exact PySem.EqNone.eq_bool_none (bZ I q (by simp))
  |bl j=>cases a;exact eq_bool (bZ I q AZ)
  |str j=>obtain⟨t',rfl⟩:=a;exact PySem.EqMixed.eq_bool_str (bZ I q (by simp))
  |_=>exact absurd (show false=true from b) b9
 |int i=>
  obtain⟨t,rfl⟩:=c;cases y with
  |ai=>cases a;exact PySem.EqNone.eq_int_none (bZ I q (by simp))
  |int j=>obtain⟨t',rfl⟩:=a;exact eq_int (bZ I q Ba)
  |str j=>obtain⟨t',rfl⟩:=a;exact PySem.EqMixed.eq_int_str (bZ I q (by simp))
  |_=>exact absurd (show false=true from b) b9
 |str i=>
  obtain⟨t,rfl⟩:=c;cases y with
  |ai=>cases a;exact PySem.EqNone.eq_str_none (bZ I q (by simp))
  |bl j=>cases a;exact PySem.EqMixed.eq_str_bool (bZ I q (by simp))
  |int j=>obtain⟨t',rfl⟩:=a;exact PySem.EqMixed.eq_str_int (bZ I q (by simp))
  |str j=>obtain⟨t',rfl⟩:=a;exact eq_str (bZ I q Bb)
  |_=>exact absurd (show false=true from b) b9
 |iI i=>
  obtain⟨t,rfl⟩:=c;cases y with
  |iI j=>obtain⟨t',rfl⟩:=a;exact PySem.W.eq_bytes (bZ I q A_)
  |_=>exact absurd (show false=true from b) b9
 |_=>cases y<;>exact absurd (show false=true from b) b9
theorem MS:a_ X (compareOp .NotEq) yo:=by
 intro pins s σ H x y v u Q I c a h;obtain⟨b,q⟩:=h;cases x with
 |ai=>
  cases c;cases y with
  |ai=>cases a;exact PySem.EqNone.ne_none_none (bZ I q (by simp))
  |bl j=>cases a;exact PySem.EqNone.ne_none_bool (bZ I q (by simp))
  |int j=>obtain⟨t',rfl⟩:=a;exact PySem.EqNone.ne_none_int (bZ I q (by simp))
  |str j=>obtain⟨t',rfl⟩:=a;exact PySem.EqNone.ne_none_str (bZ I q (by simp))
  |_=>exact absurd (show false=true from b) b9
 |bl i=>
  cases c;cases y with
  |ai=>cases a;exact PySem.EqNone.ne_bool_none (bZ I q (by simp))
  |bl j=>cases a;exact ne_bool (bZ I q (bV not AZ))
  |str j=>obtain⟨t',rfl⟩:=a;exact PySem.EqMixed.ne_bool_str (bZ I q (by simp))
  |_=>exact absurd (show false=true from b) b9
 |int i=>
  obtain⟨t,rfl⟩:=c;cases y with
  |ai=>cases a;exact PySem.EqNone.ne_int_none (bZ I q (by simp))
  |int j=>obtain⟨t',rfl⟩:=a;exact ne_int (bZ I q (bV not Ba))
  |str j=>obtain⟨t',rfl⟩:=a;exact PySem.EqMixed.ne_int_str (bZ I q (by simp))
  |_=>exact absurd (show false=true from b) b9
 |str i=>
  obtain⟨t,rfl⟩:=c;cases y with
  |ai=>cases a;exact PySem.EqNone.ne_str_none (bZ I q (by simp))
  |bl j=>cases a;exact PySem.EqMixed.ne_str_bool (bZ I q (by simp))
  |int j=>obtain⟨t',rfl⟩:=a;exact PySem.EqMixed.ne_str_int (bZ I q (by simp))
  |str j=>obtain⟨t',rfl⟩:=a;exact ne_str (bZ I q (bV not Bb))
  |_=>exact absurd (show false=true from b) b9
 |iI i=>
  obtain⟨t,rfl⟩:=c;cases y with
  |iI j=>obtain⟨t',rfl⟩:=a;exact PySem.W.ne_bytes (bZ I q (bV not A_))
  |_=>exact absurd (show false=true from b) b9
 |_=>cases y<;>exact absurd (show false=true from b) b9
theorem MO:a_ X (compareOp .Lt) (ig λi j=>.bl (decide (i<j))):=x_ λ_ _ _ _ _ _ _ q=>lt_int q
theorem MM:a_ X (compareOp .LtE) (ig λi j=>.bl (decide (i<=j))):=x_ λ_ _ _ _ _ _ _ q=>le_int q
theorem MJ:a_ X (compareOp .Gt) (ig λi j=>.bl (decide (j<i))):=x_ λ_ _ _ _ _ _ _ q=>gt_int q
theorem MP:a_ X (compareOp .Lt) (λx y H Q=>∃i j,x=.str i/\y=.str j/\Q (.bl (decide (i.cps.toList<j.cps.toList))) H):=by
 intro pins s σ H x y v u Q I a b h;obtain⟨i,j,rfl,rfl,q⟩:=h;obtain⟨t,rfl⟩:=a;obtain⟨t',rfl⟩:=b;exact lt_str (bZ I q rfl)
theorem ML:a_ X (compareOp .Is) (λx y H Q=>y=.ai/\Q (.bl (decide (x=.ai))) H):=by
 intro pins s σ H x y v u Q I a b h;obtain⟨rfl,q⟩:=h;cases b;refine is_none_gen (bZ I q ?_);cases x<;>first
  |(cases a;rfl)
  |(obtain⟨t,rfl⟩:=a;rfl)
theorem MV:a_ X (compareOp .IsNot) (λx y H Q=>y=.ai/\Q (.bl (!decide (x=.ai))) H):=by
 intro pins s σ H x y v u Q I a b h;obtain⟨rfl,q⟩:=h;cases b;refine isnot_none_gen (bZ I q ?_);cases x<;>first
  |(cases a;rfl)
  |(obtain⟨t,rfl⟩:=a;rfl)
theorem a_.or{f:Value->Value->Sem Value}{r r':R2}(h:a_ X f r)(h':a_ X f r'):a_ X f (λx y H Q=>r x y H Q\/r' x y H Q):=by
 intro pins s σ H x y v u Q I a b q;rcases q with q|q
 .exact h pins s σ H x y v u Q I a b q
 .exact h' pins s σ H x y v u Q I a b q
theorem j6(b:Expr){op:CmpOp}(h:op≠ .In:=by decide)(h2:op≠ .NotIn:=by decide):behindInMarks op b=false:=by
 have a:(op==CmpOp.In)=false:=by cases op<;>first|rfl|exact absurd rfl h
 have c:(op==CmpOp.NotIn)=false:=by cases op<;>first|rfl|exact absurd rfl h2
 cases b<;>simp[behindInMarks,a,c]
theorem M8{op:CmpOp}{r:R2}(c:a_ X (compareOp op) r)(d:PE X a ta)(e:PE X b tb)(f:behindInMarks op b=false):PE X (.Compare a [op] [b] pos) (p_ r ta tb):=by
 intro pins s σ H Q I h;exact wpAny_Compare1 (vI d e I h λv u g x y H2 i j k q=>c pins g σ H2 x y v u Q i j k q) f
def yL(t:TE):TT:=λσ H Q=>t σ H λx H'=>∃k,x=.bl k/\Q k H'
theorem N6{op:CmpOp}{r:R2}(d:a_ X (compareOp op) r)(f:PE X a ta)(g:PE X b tb)(i:behindInMarks op b=false):PT X (.Compare a [op] [b] pos) (yL (p_ r ta tb)):=by
 intro pins s σ H Q I h;refine wpAny_isTrue_Compare1 (aK (f pins s σ H _ I h) λv j ⟨x,H1,l,m,n⟩=>aK (g pins j σ H1 _ l n) λu o ⟨y,H2,p,q,t⟩=>
  aK (d pins o σ H2 x y v u _ p m q t) λc D ⟨z,w,A,B,k,e,C⟩=>?_) i
 subst e;cases B;exact lV ⟨w,A,C⟩
def yH(r r':R2)(ta tb tc:TE):TE:=λσ H Q=>ta σ H λx H1=>tb σ H1 λy H2=>r x y H2 λz H3=>∃k,z=.bl k/\
 (if k=true then tc σ H3 λw' H4=>r' y w' H4 Q else Q (.bl false) H3)
theorem M7{op f:CmpOp}{r r':R2}(n:a_ X (compareOp op) r)(g:a_ X (compareOp f) r')(o:PE X a ta)(p:PE X b tb)(hc:PE X c tc)
  (q:lastMarks [op,f] [b,c]=false:=by with_unfolding_all rfl):PE X (.Compare a [op,f] [b,c] pos) (yH r r' ta tb tc):=by
 intro pins s σ H Q I h;refine Compare_chain (aK (o pins s σ H _ I h) λv t ⟨x,H1,w,A,B⟩=>chain_link (aK (p pins t σ H1 _ w B) λu C ⟨y,H2,D,i,E⟩=>
  aK (n pins C σ H2 x y v u _ D A i E) λd F ⟨z,j,l,G,k,e,m⟩=>?_)) q
 subst e;cases G;refine lV ?_;cases k with
 |false=>exact ite_ff ⟨.bl false,j,l,rfl,m⟩
 |true=>exact ite_tt (chain_last (aK (hc pins F σ j _ l m) λJ s4 ⟨K,L,M,N,O⟩=>g pins s4 σ L y K u J Q M i N O))
theorem N4{op f:CmpOp}{r r':R2}(n:a_ X (compareOp op) r)(g:a_ X (compareOp f) r')(o:PE X a ta)(p:PE X b tb)(hc:PE X c tc)
  (q:lastMarks [op,f] [b,c]=false:=by with_unfolding_all rfl):PT X (.Compare a [op,f] [b,c] pos) (yL (yH r r' ta tb tc)):=by
 intro pins s σ H Q I h;refine isTrue_chain (aK (o pins s σ H _ I h) λv t ⟨x,H1,w,A,B⟩=>test_link (aK (p pins t σ H1 _ w B) λu C ⟨y,H2,D,i,E⟩=>
  aK (n pins C σ H2 x y v u _ D A i E) λd F ⟨z,j,l,G,k,e,m⟩=>?_)) q
 subst e;cases G;refine lV ?_;cases k with
 |false=>
  obtain⟨Y,J,K⟩:=m;cases J;exact ite_ff ⟨j,l,K⟩
 |true=>
  refine ite_tt (test_last (aK (hc pins F σ j _ l m) λL s4 ⟨M,N,O,P,R⟩=>aK (g pins s4 σ N y M u L _ O i P R) λd' s5 ⟨Z,S,T,U,k2,V,W⟩=>?_));subst V;cases U;exact lV ⟨S,T,W⟩
theorem Rt{κ:Type}{kvs:List (κ×V)}{a:List (κ×Value)}(r:KV kvs a):(!a.isEmpty)= !kvs.isEmpty:=by
 cases r<;>rfl
theorem Ru{xs:List V}{its:List Value}(r:Vals xs its):(!its.toArray.isEmpty)= !xs.isEmpty:=by
 cases r<;>simp
theorem pH:(sizeLine:Nat)<2 ^ 63:=by rw[sizeLine_eq];decide
theorem MB:a_ X (binaryOp .Add) (λx y H Q=>∃i j,x=.str i/\y=.str j/\i.length+j.length<=sizeLine/\Q (.str (i++j)) H):=by
 intro pins s σ H x y v u Q I a b h;obtain⟨i,j,rfl,rfl,hz,q⟩:=h;obtain⟨t,rfl⟩:=a;obtain⟨t',rfl⟩:=b;exact add_str (λt' c=>⟨.str (i++j),H,I.tok _,⟨_,rfl⟩,q⟩) hz
theorem vals1{x:V}{a:List Value}(r:Vals [x] a):∃u,a=[u]/\RelV x u:=by
 cases r with
 |cons b c=>cases c;exact⟨_,rfl,b⟩
theorem vals2{x y:V}{a:List Value}(r:Vals [x,y] a):∃u b,a=[u,b]/\RelV x u/\RelV y b:=by
 cases r with
 |cons c d=>
  cases d with
  |cons e f=>cases f;exact⟨_,_,rfl,c,e⟩
end
structure vg(h:Heap)(x dx C:Addr)(mA:aq):Prop where
 obj:h.get? x=some (instObj C dx)
 ns:h.Ns1 dx mA
 ne:dx≠x
theorem LJ{h:Heap}{dx:Addr}{c:aq}(n:h.Ns1 dx c):∃d,h.get? dx=some d/\∀name,lookIn name d=some (c name):=by
 obtain⟨o,es,ep,f,hd,g,_,i⟩:=n;refine⟨o,f,λname=>?_⟩;have e:=i name;unfold nsFind findBy at e;rw[<-Array.find?_toList] at e;unfold lookIn;rw[hd];dsimp only;split
 .rename_i y q
  rw[q] at e;exact bV some e
 .rename_i q
  rw[q] at e;have a:es.toList.any (·.refKey)=false:=by
   rw[List.any_eq_false];intro y j;obtain⟨z,t,b⟩:=g y (Array.mem_toList_iff.mp j);simp[DictEntry.refKey,b]
  have k:¬es.toList.any (·.refKey)=true:=by rw[a];exact b9
  rw[ay k];exact bV some e
theorem vg.look{h:Heap}{x dx C:Addr}{b:aq}(I:vg h x dx C b):∃a,PySem.W.InstAt h x (instObj C dx) C (some a)/\∀name,lookIn name a=some (b name):=
 let ⟨a,c,hl⟩:=LJ I.ns
 ⟨a,⟨I.obj,rfl,rfl,c⟩,hl⟩
theorem iF.some_of{v:V}{o:Option Value}(r:iF (some v) o):∃u,o=some u/\RelV v u:=by
 cases o with
 |none=>exact(show False from r).elim
 |some u=>exact⟨u,rfl,r⟩
section
variable{P:Program}{w:World}{H H':Hp}{h h':Heap}{a C dx:Addr}{fs fs':List (Str×V)}
theorem KW(hok:cy P w H h)(e:H a=some (.ins C dx fs)):∃b,vg h a dx C b/\(∀f,iF (fs.lookup f) (b f))/\PySem.Within b (fs.map (·.1))/\fs.length<=1000/\H dx=some (.own a):=by
 obtain⟨d,z,ne,c,b,n,r,q⟩:=(show bQ P w H h a (.ins C dx fs) from hok a _ e);exact⟨b,⟨c,n,ne⟩,r,q,z,d⟩
end
structure u6(K:Frag)(C:Addr):Prop where
 pg:plainGet K C Str.empty=true
 hd:PySem.W.hasDictIn K C=true
 po:PySem.W.plainOver K C=true
 sa:findIn K (.ref C) "__setattr__"=some (some (.builtin "object.__setattr__"))
theorem u6.get{K:Frag}{C:Addr}(c:u6 K C)(f:Str):plainGet K C f=true:=c.pg
section
variable{X:Cx}{pins:aQ}{σ:St}{H:Hp}{s:Shared}{A:Around}{E:bw}{Q:bw}{c:Value}{b:Bool}
inductive gC(K:Frag)(H:Hp):V->Value->Prop where
 |ai:gC K H .ai (.type "NoneType")
 |bl (x:Bool):gC K H (.bl x) (.type "bool")
 |int (i:Int):gC K H (.int i) (.type "int")
 |str (x:Str):gC K H (.str x) (.type "str")
 |mW (x:UInt64):gC K H (.mW x) (.type "float")
 |lst {a:Addr} {xs:List V} (e:H a=some (.lst xs)):gC K H (.ref a) (.type "list")
 |bz {a:Addr} {o:Obj} {xs:List V} (e:H a=some (.bz o (.lst xs))):gC K H (.ref a) (.type "list")
 |tup {a:Addr} {xs:List V} (e:H a=some (.tup xs)):gC K H (.ref a) (.type "tuple")
 |dK {a:Addr} {kvs:List (Key×V)} (e:H a=some (.dK kvs)):gC K H (.ref a) (.type "dict")
 |dT {a:Addr} {kvs:List (List Key×V)} (e:H a=some (.dT kvs)):gC K H (.ref a) (.type "dict")
 |ins {a C dx:Addr} {fs:List (Str×V)} (e:H a=some (.ins C dx fs)) (cl:u6 K C) (ha:findIn K (.ref C) "__class__"=some (some (.builtin "object.__class__")))
  (hn:PySem.W.specialIn K (.builtin "object.__class__") "__get__"=some (some (.builtin "getset_descriptor.__get__"))) (htk:PySem.W.takesIn K (.builtin "object.__class__")=some true)
  (hm:PySem.W.mroIn K C (.type "object")=some true):gC K H (.ref a) (.ref C)
theorem K3{x:V}{u t:Value}(I:Inv X pins σ H s)(d:RelV x u)(ty:gC X.K H x t)(e:kitOne X.K t c=some b)(h:∀j,Q (.bool b) {s with toks:=j}):
  wpAny (model X.prog X.w) A (call (.builtin "isinstance") [u,c]) Q E s:=by
 cases ty with
 |ai=>cases (show u=Value.none from d);exact gO PySem.W.kitx_none I.fc True.intro e (λz=>nomatch z) h
 |bl y=>cases (show u=Value.bool y from d);exact gO PySem.W.kitx_bool I.fc True.intro e (λz=>nomatch z) h
 |int i=>obtain⟨t,q⟩:=(show ∃t,u=Value.int i t from d);cases q;exact gO PySem.W.kitx_int I.fc True.intro e (λz=>nomatch z) h
 |str y=>obtain⟨t,q⟩:=(show ∃t,u=Value.str y t from d);cases q;exact gO PySem.W.kitx_str I.fc True.intro e (λz=>nomatch z) h
 |mW y=>obtain⟨t,q⟩:=(show ∃t,u=Value.float y t from d);cases q;exact gO PySem.W.kitx_float I.fc True.intro e (λz=>nomatch z) h
 | @lst a xs f=>
  cases (show u=Value.ref a from d);obtain⟨_,_,n,_,h1⟩:=(show bQ X.prog X.w H s.heap a (.lst xs) from I.hok a _ f);exact gO kitx_list I.fc ⟨_,h1,rfl⟩ e (λz=>nomatch z) h
 | @bz a k xs f=>
  cases (show u=Value.ref a from d);obtain⟨_,_,_,n,_,h1⟩:=(show bQ X.prog X.w H s.heap a (.bz k (.lst xs)) from I.hok a _ f);exact gO kitx_list I.fc ⟨_,h1,rfl⟩ e (λz=>nomatch z) h
 | @tup a xs f=>
  cases (show u=Value.ref a from d);obtain⟨_,_,_,p⟩:=(show bQ X.prog X.w H s.heap a (.tup xs) from I.hok a _ f);obtain⟨o,h1,h2,_⟩:=p.is;exact gO kitx_tuple I.fc ⟨o,h1,h2⟩ e (λz=>nomatch z) h
 | @dK a kvs f=>
  cases (show u=Value.ref a from d);obtain⟨_,_,v,_,p⟩:=(show bQ X.prog X.w H s.heap a (.dK kvs) from I.hok a _ f);obtain⟨o,es,ep,h1,h2,_⟩:=p;exact gO kitx_dict I.fc ⟨o,h1,h2.1⟩ e (λz=>nomatch z) h
 | @dT a kvs f=>
  cases (show u=Value.ref a from d);obtain⟨_,_,xs,_,o,es,ep,h1,h2,_⟩:=(show bQ X.prog X.w H s.heap a (.dT kvs) from I.hok a _ f);exact gO kitx_dict I.fc ⟨o,h1,h2.1⟩ e (λz=>nomatch z) h
 | @ins a C dx fs f cl l m g r=>
  cases (show u=Value.ref a from d);obtain⟨B,O,_⟩:=KW I.hok f;obtain⟨D,J,_⟩:=O.look;exact gO (PySem.W.kitx_own (cl.get _) cl.hd l m g r) I.fc J e (λz=>nomatch z) h
end
structure dD(k:Nat)(A:Around):Prop where
 hd:A.handled=none
 dp:A.depth+3*k+5<recursionLimit
 un:A.units+16*k+200<cLine
theorem dD.mono{j k:Nat}{A:Around}(r:dD k A)(h:j<=k):dD j A:=⟨r.hd,by have:=r.dp;omega,by have:=r.un;omega⟩
theorem dD.deeper{k:Nat}{A:Around}(r:dD (k+1) A)(env:Env):dD k (A.deeper env):=
 ⟨r.hd,by have:=r.dp;show A.depth+1+3*k+5<_;omega,by have:=r.un;show A.units+3+16*k+200<_;omega⟩
theorem dD.depth{k:Nat}{A:Around}(r:dD k A):A.depth<recursionLimit:=by have:=r.dp;omega
theorem dD.units{k:Nat}{A:Around}(r:dD k A):A.units+64<cLine:=by have:=r.un;omega
def Qi:TA:=λ_ H Q=>Q [] H
def P9(ta:TE)(tr:TA):TA:=λσ H Q=>ta σ H λx H1=>tr σ H1 λxs H2=>Q (x::xs) H2
section
variable{X:Cx}{e:Expr}{es:List Expr}{te:TE}{t:TA}{pos:Pos}
theorem Df:PA X [] Qi:=λ_ _ _ _ H Q I h=>Calls.spliced_nil ⟨[],H,I,.nil,h⟩
theorem yc(a:PE X e te)(b:PA X es t)(c:starEach (e::es) X.env=(false,eval e X.env)::starEach es X.env:=by rfl):PA X (e::es) (P9 te t):=by
 intro pos pins s σ H Q I h;rw[c];show wpAny _ _ (spliced ((false,eval e X.env)::backTo pos (starEach es X.env))) _ _ s;refine Calls.spliced_cons (aK (a pins s σ H _ I h) λu d ⟨x,H1,f,g,i⟩=>?_);exact aK (b pos pins d σ H1 _ f i) λm n ⟨xs,H2,j,k,l⟩=>⟨x::xs,H2,j,.cons g k,l⟩
def Qt(t:TA):TE:=λσ H Q=>t σ H λxs H1=>xs.length<=sizeLine/\∀p,H1 p=none->Q (.ref p) (upd H1 p (.tup xs))
def Qg(t:TA):TE:=λσ H Q=>t σ H λxs H1=>xs.length<=sizeLine/\∀p,H1 p=none->Q (.ref p) (upd H1 p (.lst xs))
theorem Nn{d}(h:PA X es t):PE X (.Tuple es d pos) (Qt t):=by
 intro pins s σ H Q I f;refine wpAny_Tuple_spliced (aK (h pos pins s σ H _ I f) λg a ⟨xs,H1,c,r,z,q⟩=>⟨by rw[<-r.length];exact z,?_⟩);have i:H1 a.heap.objs.size=none:=c.hok.fresh (aI _);refine⟨.ref a.heap.objs.size,upd H1 a.heap.objs.size (.tup xs),c.laid (t':=a.toks) (λb u e=>bP _ e) (aI _) ?_,rfl,q _ i⟩;exact⟨z,g,r,⟨_,eT _ rfl⟩⟩
theorem Nf(h:PA X es t):PE X (.List es pos) (Qg t):=by
 intro pins s σ H Q I d;refine wpAny_List_spliced (aK (h pos pins s σ H _ I d) λf a ⟨xs,H1,c,r,z,q⟩=>⟨by rw[<-r.length];exact z,?_⟩);have g:H1 a.heap.objs.size=none:=c.hok.fresh (aI _);refine⟨.ref a.heap.objs.size,upd H1 a.heap.objs.size (.lst xs),c.laid (t':=a.toks) (λb u e=>bP _ e) (aI _) ?_,rfl,q _ g⟩;exact⟨z,f,0,r,eT _ rfl⟩
end
abbrev Sp:=List V->Hp->VK->XK->Prop
abbrev iC:=List Env->Hp->Shared->XK->bw
structure qC(P:Program)(w:World)(K:Frag)(mg:aq)(base:Heap)(A:Around)(outer:List Env)(s:Shared)(H:Hp):Prop where
 frames:A.frames=some outer
 mod:Mod K mg base
 bs:∀b o,base.get? b=some o->s.heap.get? b=some o/\H b=none
 kI:base.objs.size<=s.heap.objs.size
 jb:s.heap.FunFrames base outer
 mX:∀b∈frs outer,H b=none
 hok:cy P w H s.heap
 bare:AllBare s.gens
def CE(outer:List Env)(P:Program)(w:World)(H:Hp)(s:Shared)(Q:VK)(u:Value)(s':Shared):Prop:=
 ∃v H',s'.os=s.os/\AllBare s'.gens/\Un (frs outer) [] H H' s.heap s'.heap/\cy P w H' s'.heap/\RelV v u/\Q v H'
def CR(CX:iC)(outer:List Env)(P:Program)(w:World)(H:Hp)(s:Shared)(Q:VK)(E:XK)(r:Result)(s':Shared):Prop:=
 match r with
 |.ok (.ret u)=>CE outer P w H s Q u s'
 |.ok _=>False
 |.error e=>CX outer H s E e s'
structure fW(P:Program)(w:World)(K:Frag)(mg:aq)(base:Heap)(CX:iC)(k:Nat)(f:Addr)(fd:FuncData)(ps:List Str)(sp:Sp):Prop where
 len:∀vs H Q E,sp vs H Q E->vs.length=ps.length
 run:∀(A:Around) (outer:List Env) (s:Shared) (H:Hp) (args:Args) (us:List Value) (vs:List V) (Q:VK) (E:XK),dD k A->qC P w K mg base A outer s H->BindsTo s fd args (ps.zip us)->Vals vs us->sp vs H Q E->
  codeAny (model P w) A (.call (.ref f) args) (CR CX outer P w H s Q E) s
theorem fW.imp{P:Program}{w:World}{K:Frag}{mg:aq}{base:Heap}{CX:iC}{k:Nat}{f:Addr}{fd:FuncData}{ps:List Str}{sp b:Sp}(F:fW P w K mg base CX k f fd ps sp)
  (h:∀a H Q E,b a H Q E->sp a H Q E):fW P w K mg base CX k f fd ps b:=
 ⟨λa H Q E q=>F.len a H Q E (h _ _ _ _ q),λA outer s H args c a Q E d e g i j=>F.run A outer s H args c a Q E d e g i (h _ _ _ _ j)⟩
section
variable{X:Cx}{pins:aQ}{σ:St}{H:Hp}{s s':Shared}
theorem Inv.II(I:Inv X pins σ H s):qC X.prog X.w X.K X.mg X.base X.A X.stack s H:=
 ⟨I.ok.frames,I.ok.mod,I.bs,dU I.ok.kI I.sz,I.stack,I.yD,I.hok,I.bare⟩
theorem Inv.after{Q:VK}{u:Value}(I:Inv X pins σ H s)(h:CE X.stack X.prog X.w H s Q u s'):EP X pins σ Q u s':=by
 obtain⟨v,H',os,bare,un,hok,r,q⟩:=h;obtain⟨c,g,d,t,a⟩:=s';obtain rfl:a=s.os:=os;exact⟨v,H',I.call (h':=c) (g':=g) (d':=d) (t':=t) (ch:=[]) un hok bare (λb z=>absurd z (by simp)),r,q⟩
end
def Fg(sp:Sp)(jX:List V)(E:XK)(t:TA):TE:=λσ H Q=>t σ H λvs H1=>sp (vs++jX) H1 Q E
def Binds(K:Frag)(fd:FuncData)(ps:List Str)(ds:List Value):Prop:=
 ∀(s:Shared) (us:List Value),K.In s.heap->(us++ds).length=ps.length->BindsTo s fd ⟨us,[]⟩ (ps.zip (us++ds))
theorem Binds.all{K:Frag}{fd:FuncData}{ps:List Str}(h:∀a:List Value,a.length=ps.length->bindArgs fd ⟨a,[]⟩=pure (ps.zip a)):Binds K fd ps []:=λs a _ hl=>by
 rw[kr] at hl ⊢;exact .of_eq (h a hl)
def Passes(CX:iC)(X:Cx)(E:XK):Prop:=∀(pins:aQ) (σ:St) (H:Hp) (s:Shared) (e:Value) (s':Shared),Inv X pins σ H s->CX X.stack H s E e s'->X.xe e s'
section
variable{X:Cx}{CX:iC}{k:Nat}{f C:Addr}{fd:FuncData}{ps:List Str}{sp:Sp}{jX:List V}{ds:List Value}{E:XK}{x m:Str}{p pos apos:Pos}{e o:Expr}{es:List Expr}{ta:TE}{t:TA}
theorem OA{pins:aQ}{σ:St}{H:Hp}{s:Shared}{Q:VK}{a:List Value}{c:List V}(F:fW X.prog X.w X.K X.mg X.base CX k f fd ps sp)(g:dD k X.A)(i:Binds X.K fd ps ds)(hd:Vals jX ds)(j:Passes CX X E)
  (I:Inv X pins σ H s)(r:Vals c a)(h:sp (c++jX) H Q E):wpAny (model X.prog X.w) X.A (call (.ref f) a) (EP X pins σ Q) X.xe s:=by
 have d:Vals (c++jX) (a++ds):=r.append hd;have hl:(a++ds).length=ps.length:=by rw[<-d.length];exact F.len _ _ _ _ h
 refine wpAny_call (codeAny_mono (F.run X.A X.stack s H ⟨a,[]⟩ (a++ds) (c++jX) Q E g I.II (i s a I.fc hl) d h) λr s' b=>?_);cases r with
 |error e=>exact j pins σ H s e s' I b
 |ok fl=>
  cases fl with
  |ret u=>exact I.after b
  |next=>exact False.elim b
  |brk=>exact False.elim b
  |cont=>exact False.elim b
theorem M4(F:fW X.prog X.w X.K X.mg X.base CX k f fd ps sp)(d:dD k X.A)(g:Gl X x)(i:X.mg x=some (.ref f))(j:keepIn X.K (.ref f)=true)(l:Binds X.K fd ps ds)(hd:Vals jX ds)(m:Passes CX X E)
  (n:PA X (e::es) t)(a:(x==("__debug__":Str))=false:=by decide)(o:starEach (e::es) X.env=(false,eval e X.env)::starEach es X.env:=by rfl)(b:(backTo pos (starEach es X.env)).any (·.1)=false:=by rfl):
  PE X (.Call (.Name x p) (e::es) [] pos) (Fg sp jX E t):=by
 intro pins s σ H Q I h;refine qm (xD I g i ?_ a);refine PySem.W.callWith_K (h₀:=X.base) I.ok.mod.rW j (aK (n pos pins s σ H _ I h) λu v ⟨y,H1,c,r,q⟩=>⟨c.fc,?_⟩) o b;exact OA F d l hd m c r q
end
structure bg(N P:List Str)(sc:Scope):Prop where
 kind:sc.kind= .function
 co:sc.isCoroutine=false
 gen:sc.isGenerator=false
 nd:N.Nodup
 pre:N.take P.length=P
 par:∀x∈P,sc.names.lookup x=some .local\/sc.names.lookup x=some .cell
 xX:∀y∈sc.names,y.2≠ .free
theorem Ak{kindOf:Str->Option NameKind}{x:Str}:∀{binds:List (Str×Value)} {m:aq},(∀v,(x,v)∉binds)->bindL kindOf binds m x=m x
 |[],_,_=>rfl
 |(n,v)::r,m,h=>by
  unfold bindL;rw[Ak λw a=>h w (cj _ a)];split
  .have:x≠n:=by rintro rfl;exact h v cR
   simp[this]
  .rfl
theorem Ai{kindOf:Str->Option NameKind}{x:Str}:∀{binds:List (Str×Value)} {m:aq},(∀v,(x,v)∉binds)->bindC kindOf binds m x=m x
 |[],_,_=>rfl
 |(n,v)::r,m,h=>by
  unfold bindC;rw[Ai λw a=>h w (cj _ a)];split
  .rfl
  .have:x≠n:=by rintro rfl;exact h v cR
   simp[this]
theorem Aj{kindOf:Str->Option NameKind}{x:Str}{v:Value}:∀{P:List Str} {a:List Value} {i:Nat} {m:aq},P.Nodup->P[i]?=some x->a[i]?=some v->kindOf x=some .local->
  bindL kindOf (P.zip a) m x=some v
 |[],_,_,_,_,h,_,_=>by simp at h
 |_::_,[],_,_,_,_,h,_=>by simp at h
 |p::P,w::a,0,m,nd,h1,h2,b=>by
  simp at h1 h2;subst h1;subst h2;show bindL kindOf ((p,w)::P.zip a) m p=_;unfold bindL;rw[Ak λv c=>(ki.mp nd).1 (of_mem_zip c).1,aA b];simp
 |p::P,w::a,i+1,m,nd,h1,h2,b=>by
  show bindL kindOf ((p,w)::P.zip a) m x=_;unfold bindL;exact Aj (i:=i) (ki.mp nd).2 (by simpa using h1) (by simpa using h2) b
theorem Ah{kindOf:Str->Option NameKind}{x:Str}{v:Value}:∀{P:List Str} {a:List Value} {i:Nat} {m:aq},P.Nodup->P[i]?=some x->a[i]?=some v->kindOf x≠some .local->
  bindC kindOf (P.zip a) m x=some v
 |[],_,_,_,_,h,_,_=>by simp at h
 |_::_,[],_,_,_,_,h,_=>by simp at h
 |p::P,w::a,0,m,nd,h1,h2,b=>by
  simp at h1 h2;subst h1;subst h2;show bindC kindOf ((p,w)::P.zip a) m p=_;unfold bindC;rw[Ai λv c=>(ki.mp nd).1 (of_mem_zip c).1,ay b];simp
 |p::P,w::a,i+1,m,nd,h1,h2,b=>by
  show bindC kindOf ((p,w)::P.zip a) m x=_;unfold bindC;exact Ah (i:=i) (ki.mp nd).2 (by simpa using h1) (by simpa using h2) b
def start(N:List Str)(vs:List V):St:=vs.map some++replicate (N.length - vs.length) none
def bA(CX:iC)(P:Program)(w:World)(K:Frag)(mg:aq)(base:Heap)(N:List Str)(qual:Str)(scope:Scope)(f:Addr)(cd:Value)(A:Around)(outer:List Env)(s:Shared)(H:Hp)(E:XK):Cx where
 prog:=P
 w:=w
 K:=K
 mg:=mg
 base:=base
 A:=A.deeper (envOfC qual scope s.heap.objs.size f cd)
 N:=N
 s₀:=s
 H₀:=H
 env:=envOfC qual scope s.heap.objs.size f cd
 outer:=outer
 stack:=envOfC qual scope s.heap.objs.size f cd::outer
 ex:=[]
 calm:=true
 fn:=λ_=>true
 pn:=[]
 xe:=λe s'=>wpAny (model P w) (A.deeper (envOfC qual scope s.heap.objs.size f cd)) (leaving (envOfC qual scope s.heap.objs.size f cd) e) (λ_ s''=>CX outer H s E e s'') (λe' s''=>CX outer H s E e' s'') s'
theorem As{sc:Scope}{n:Nat}{x:Str}(h:sc.names.lookup x=some .cell):∃c,(cellsFrom n sc.names []).lookup x=some c:=by
 have q:=PySem.W.cellsFrom_some sc.names n [] (.inl h);exact mq.mp q
theorem KZ{CX:iC}{P:Program}{w:World}{K:Frag}{mg:aq}{base:Heap}{N ps:List Str}{qual:Str}{scope:Scope}{f:Addr}{cd:Value}{A:Around}{outer:List Env}{s t:Shared}{H:Hp}{E:XK}{o:List Value}{g:List V}
  (S:bg N ps scope)(hd:A.handled=none)(d:qC P w K mg base A outer s H)(hl:g.length=ps.length)(r:Vals g o)
  (x:InCallC s s.heap.objs.size (bindL (envOfC qual scope s.heap.objs.size f cd).kindOf (ps.zip o) λ_=>none) (cellsFrom (s.heap.objs.size+1) scope.names []) (bindC (envOfC qual scope s.heap.objs.size f cd).kindOf (ps.zip o) λ_=>none) t):
  Inv (bA CX P w K mg base N qual scope f cd A outer s H E) [] (start N g) H t:=by
 have D:ps.length<=N.length:=by have:=bV List.length S.pre;rw[jM] at this;omega
 obtain⟨h1,I,rfl,B⟩:=x.done
 have j:∀b:Addr,b∉(bA CX P w K mg base N qual scope f cd A outer s H E).ex:=λb z=>absurd (show b∈([]:List Addr) from z) (by simp)
 refine⟨⟨d.mod,S.kind,rfl,rfl,aI _,λy z c h1 h2=> ?_,λy hy=> ?_,λy c _ h=> ?_,λ_=>hd,Around.frames_deeper d.frames,.inr ⟨rfl,rfl⟩,λb z=>absurd z (j b),d.bs,d.kI,λb _ _=>j b,λb z=>absurd z (j b),d.jb,d.mX⟩,
  rfl,d.bare,Un.kept B,⟨_,x.toInCall.ns,λi y v h1 h2 J=> ?_⟩,λy c h=>⟨_,x.cell y c h⟩,d.hok.fresh (aI _),λy c h=> ?_,λp l=>absurd (show p∈([]:aQ) from l) (by simp),d.hok.kept B,?_⟩
 .exact name_of_addr x.apart (lX h1) (lX h2)
 .have hy:scope.names.lookup y=some .cell\/scope.names.lookup y=some .free:=hy
  rcases hy with hy|hy
  .exact As hy
  .exact absurd rfl (S.xX _ (lX hy))
 .exact le_of_lt (x.above y c (lX h))
 .have hi:i<g.length:=by
   unfold start at h2
   by_cases hi:i<g.length
   .exact hi
   .rw[mh (by simpa using hi)] at h2
    rw[List.getElem?_replicate] at h2
    split at h2<;>cases h2
  have F:g[i]? =some v:=by
   unfold start at h2
   rw[gz (by simpa using hi),bH] at h2
   cases e:g[i]? with
   |none=>rw[e] at h2;cases h2
   |some a=>rw[e] at h2;cases h2;rfl
  obtain⟨u,C,G⟩:=r.get F
  have l:ps[i]? =some y:=by
   rw[<-S.pre,List.getElem?_take_of_lt (by omega)];exact h1
  have m:ps.Nodup:=by rw[<-S.pre];exact S.nd.sublist (List.take_sublist _ _)
  refine⟨u,G,?_⟩
  rcases S.par y (dw l) with k|k
  .exact .inl ⟨k,Aj m l C k⟩
  .obtain⟨c,e⟩:=As (n:=s.heap.objs.size+1) k
   refine .inr ⟨.inl k,c,e,?_⟩
   have q:=x.cell y c e
   rw[Ah m l C (by show scope.names.lookup y≠_;rw[k];decide)] at q
   exact q
 .exact d.hok.fresh (le_of_lt (x.above y c (lX h)))
 .unfold start
  show _=N.length
  rw[dI,aR,List.length_replicate]
  omega
theorem BB{CX:iC}{P:Program}{w:World}{K:Frag}{mg:aq}{base:Heap}{k:Nat}{f:Addr}{name qual:Str}{params:Arguments}{body:List Stmt}{scope:Scope}{B kV doc pm a ct F:Value}{an G:Option Addr}
  {l:Array (Option Value)}{N ps:List Str}{sp:Sp}(lk:K.lookup f=some ⟨F,G,.func (fnOf name qual params body scope B kV doc pm an a ct),l⟩)(m:codeIn K a qual=true)(S:bg N ps scope)
  (len:∀c H Q E,sp c H Q E->c.length=ps.length)
  (d:∀(A:Around) (outer:List Env) (s:Shared) (H:Hp) (c:List V) (Q:VK) (E:XK),dD k (A.deeper (envOfC qual scope s.heap.objs.size f a))->sp c H Q E->
   ∃t,dB (bA CX P w K mg base N qual scope f a A outer s H E) body t/\t {nx:=λ_ H'=>Q .ai H',rt:=Q} (start N c) H):
  fW P w K mg base CX (k+1) f (fnOf name qual params body scope B kV doc pm an a ct) ps sp:=by
 refine⟨len,λA outer s H args L c Q E p i M r j=> ?_⟩
 have hl:=len _ _ _ _ j
 have C:K.In s.heap:=i.mod.rW.keeps λb o e=>(i.bs b o e).1
 have lim:s.heap.NoLimit:=i.mod.nolimit.keeps λb o e=>(i.bs b o e).1
 have g:∀y∈ps.zip L,scope.names.lookup y.1=some .local\/(scope.names.lookup y.1=some .cell/\((cellsFrom (s.heap.objs.size+1) scope.names []).lookup y.1).isSome=true):=λ⟨n,v⟩ O=>by
  rcases S.par n (of_mem_zip O).1 with q|q
  .exact .inl q
  .exact .inr ⟨q,PySem.W.cellsFrom_some _ _ _ (.inl q)⟩
 refine codeAny_call_function p.depth (C _ _ lk) rfl S.co S.gen rfl (PySem.W.codeRec_of C m) (M _ _ _ _ ?_)
 refine wpAny_newFunctionEnv_cells S.kind g λenv R D x=> ?_
 subst R
 refine⟨lim.keeps x.toInCall.keep,codeAny_func ?_⟩
 obtain⟨t,T,U⟩:=d A outer s H c Q E (p.deeper _) j
 have I:Inv (bA CX P w K mg base N qual scope f a A outer s H E) [] (start N c) H D:=KZ S p.hd i hl r x
 refine nO (T [] D (start N c) H _ I U) (λfl s' h=> ?_) λe s' h=>h
 have fin:∀{σ':St} {H':Hp} {v:V} {u:Value},Inv (bA CX P w K mg base N qual scope f a A outer s H E) [] σ' H' s'->RelV v u->Q v H'->CE outer P w H s Q u s':=
  λ {σ' H' v u} J z q=>⟨v,H',J.os,J.bare,J.base,J.hok,z,q⟩
 cases fl with
 |ret u=>
  obtain⟨v,σ',H',J,z,q⟩:=h
  exact fin J z q
 |next=>
  obtain⟨σ',H',J,q⟩:=h
  exact fin (v:=V.ai) (u:=Value.none) J rfl q
 |brk=>
  obtain⟨_,_,_,q⟩:=h
  exact False.elim q
 |cont=>
  obtain⟨_,_,_,q⟩:=h
  exact False.elim q
section
variable{X:Cx}{x:Str}{p pos:Pos}{e:Expr}{es:List Expr}{t:TA}{id T:String}{r:List V->Hp->VK->Prop}
def yG(r:List V->Hp->VK->Prop)(t:TA):TE:=λσ H Q=>t σ H λvs H1=>r vs H1 Q
theorem Dj(hc:eU X (.builtin id) r)(c:Gl X x)(d:X.mg x=none)(f:bootBuiltins x=some (.builtin id))(g:PA X (e::es) t)(i:x≠"__name__":=by decide)(a:(x==("__debug__":Str))=false:=by decide)
  (j:starEach (e::es) X.env=(false,eval e X.env)::starEach es X.env:=by rfl)(b:(backTo pos (starEach es X.env)).any (·.1)=false:=by rfl):PE X (.Call (.Name x p) (e::es) [] pos) (yG r t):=by
 intro pins s σ H Q I h;refine qm (j4 I c d f ?_ i a);exact PyProof.Rows.callWith_builtin1 (aK (g pos pins s σ H _ I h) λk l ⟨m,H1,n,o,q⟩=>hc pins l σ H1 m k Q n o q) j b
theorem M5(hc:eU X (.type T) r)(c:Gl X x)(d:X.mg x=none)(f:bootBuiltins x=some (.type T))(g:PA X (e::es) t)(i:x≠"__name__":=by decide)(a:(x==("__debug__":Str))=false:=by decide)
  (j:starEach (e::es) X.env=(false,eval e X.env)::starEach es X.env:=by rfl)(b:(backTo pos (starEach es X.env)).any (·.1)=false:=by rfl):PE X (.Call (.Name x p) (e::es) [] pos) (yG r t):=by
 intro pins s σ H Q I h;refine qm (j4 I c d f ?_ i a);exact nJ (aK (g pos pins s σ H _ I h) λk l ⟨m,H1,n,o,q⟩=>hc pins l σ H1 m k Q n o q) j b
end
end L2
end
namespace HT
open PySem PyProof.Rows
section
variable{prog:Program}{w:World}{A:Around}{E:bw}{s:Shared}
theorem G9{t b:Addr}{c ws:List Value}{Q:bw}(m:IsTup s.heap t c.toArray)(o:IsTup s.heap b ws.toArray)(j:c≠[])
  (h1:ws=[]->Q (.ref t) s)(h2:ws≠[]->Q (.ref s.heap.objs.size) {s with heap:=s.heap.push {cls:= .type "tuple",data:= .seq (c++ws).toArray}})
  (hsz:c.length+ws.length<=sizeLine):wpAny (model prog w) A (binaryOp .Add (.ref t) (.ref b)) Q E s:=by
 obtain⟨⟨cls,dd,data,k⟩,h,hc,n,hd⟩:=id m
 obtain⟨⟨l,d,data2,f⟩,a,g,n2,hd2⟩:=id o
 simp only at hc hd g hd2
 subst hc hd g hd2
 have e:c.toArray++ws.toArray=(c++ws).toArray:=by simp
 by_cases i:ws=[]
 .exact concat_meets ⟨_,h,rfl⟩ ⟨_,a,rfl⟩ noFill_tuple_add seq_tuple_add slot_tuple_add entry_tuple_add (args_tuple_add_2 _ _)
   (tuple_addW1 t b c.toArray ws.toArray n n2 dd d k f (by simpa using j) (by simp[i])) ⟨h,a,h1 i⟩
 .refine concat_meets ⟨_,h,rfl⟩ ⟨_,a,rfl⟩ noFill_tuple_add seq_tuple_add slot_tuple_add entry_tuple_add (args_tuple_add_2 _ _)
   (tuple_addW2 t b c.toArray ws.toArray n n2 dd d k f (by simpa using j) (by simpa using i) (by rw[cA,cA];exact hsz)) ⟨h,a,?_⟩
  rw[e]
  exact h2 i
def aP(n d:Nat):Option Int->Nat
 |none=>d
 |some v=>if v<0 then (v+(n:Int)).toNat else min v.toNat n
theorem Eb(n d k:Nat):aP n d (some (k:Int))=min k n:=by
 show(if (k:Int)<0 then ((k:Int)+(n:Int)).toNat else min (k:Int).toNat n)=min k n;rw[ay (by omega),nM]
theorem OF(n d:Nat)(hd:d<=n)(o:Option Int):aP n d o<=n:=by
 cases o with
 |none=>exact hd
 |some v=>
  show(if v<0 then (v+(n:Int)).toNat else min v.toNat n)<=n;by_cases a:v<0
  .rw[aA a];omega
  .rw[ay a];exact Nat.min_le_right _ _
theorem Aw(v:Int)(n d:Nat):(if v<0 then max (v+(n:Int)) 0 else min v (n:Int))=((aP n d (some v):Nat):Int):=by
 show(if v<0 then max (v+(n:Int)) 0 else min v (n:Int))=(((if v<0 then (v+(n:Int)).toNat else min v.toNat n):Nat):Int);by_cases a:v<0
 .simp only[aA a];omega
 .simp only[ay a];omega
theorem GJ(lo hi:Option Int)(n:Nat):Builtin.Slice.sliceAdjust lo hi 1 (n:Int)=(((aP n 0 lo:Nat):Int),((aP n n hi:Nat):Int)):=by
 have h1:¬((1:Int)<0):=by omega
 unfold Builtin.Slice.sliceAdjust;simp only[h1,if_false];refine Prod.ext ?_ ?_
 .cases lo with
  |none=>rfl
  |some v=>exact Aw v n 0
 .cases hi with
  |none=>rfl
  |some v=>exact Aw v n n
theorem NF(i j:Nat):Builtin.Slice.slicePlaces (i:Int) (j:Int) 1=j - i:=by
 unfold Builtin.Slice.slicePlaces;have h1:(1:Int)>0:=by omega
 simp only[h1,if_true,Int.ediv_one];split<;>omega
theorem E6{v:Value}{o:Option Int}{Q:Option Int->Shared->Prop}(p:IsPart v o)(h:Q o s):wpAny (model prog w) A (Builtin.Slice.slicePartIndex v) Q E s:=by
 cases p with
 |none=>exact slicePart_none h
 |int i t=>exact slicePart_int h
theorem Py{e:Addr}{c d:Value}{lo hi:Option Int}{n:Nat}{Q:Int×Int×Nat->Shared->Prop}(f:s.heap.IsSliceOf e c d .none)(pl:IsPart c lo)(pu:IsPart d hi)
  (h:Q (((aP n 0 lo:Nat):Int),1,aP n n hi - aP n 0 lo) s):wpAny (model prog w) A (Builtin.Slice.sliceApplied (.ref e) (pure (n:Int))) Q E s:=by
 obtain⟨os,a,g,b⟩:=id f;unfold Builtin.Slice.sliceApplied Builtin.Slice.sliceFields;refine aC (aC (iP a b (x:=c) rfl (aC (iP a b (x:=d) rfl (aC (iP a b (x:=.none) rfl (aX ?_)))))));refine aC (slicePart_none ?_);show wpAny _ _ (if ((1:Int)==0)=true then _ else _) _ _ s;rw[ay (by decide)];refine aC (E6 pl (aC (E6 pu (aC (aX ?_)))));show wpAny _ _ (match Builtin.Slice.sliceAdjust lo hi 1 (n:Int) with|(lo,hi)=>pure (lo,(1:Int),Builtin.Slice.slicePlaces lo hi 1)) _ _ s;rw[GJ lo hi n];show wpAny _ _ (pure (((aP n 0 lo:Nat):Int),(1:Int),Builtin.Slice.slicePlaces ((aP n 0 lo:Nat):Int) ((aP n n hi:Nat):Int) 1)) _ _ s;rw[NF];exact aX h
theorem NB(xs:Array Value)(i k:Nat):((range k).filterMap λ(m:Nat)=>xs[((i:Int)+(m:Int)*1).toNat]?).toArray=((xs.toList.drop i).take k).toArray:=by
 have e:(λ(m:Nat)=>xs[((i:Int)+(m:Int)*1).toNat]?)=λm=>xs[i+m]? :=by
  funext m;have:((i:Int)+(m:Int)*1).toNat=i+m:=by omega
  rw[this]
 rw[e];have:=pick_run xs i k;rw[List.filterMap_map] at this;have a:((λx=>xs[x]?)∘λx=>i+x)=λm=>xs[i+m]? :=rfl;rw[a] at this;rw[this]
theorem JU{t c:Addr}{items:Array Value}{i j:Value}{lo hi:Option Int}{Q:bw}(b:IsTup s.heap t items)(k:s.heap.IsSliceOf c i j .none)(pl:IsPart i lo)(pu:IsPart j hi)
  (l:¬(aP items.size 0 lo=0/\aP items.size items.size hi=items.size))
  (h:Q (.ref s.heap.objs.size) {s with heap:=s.heap.push {cls:= .type "tuple",data:= .seq ((items.toList.drop (aP items.size 0 lo)).take (aP items.size items.size hi - aP items.size 0 lo)).toArray}})
  (hsz:items.size<=sizeLine):wpAny (model prog w) A (getItem (.ref t) (.ref c)) Q E s:=by
 have a:sizeOk (.seq ((items.toList.drop (aP items.size 0 lo)).take (aP items.size items.size hi - aP items.size 0 lo)).toArray):=by
  show((items.toList.drop (aP items.size 0 lo)).take (aP items.size items.size hi - aP items.size 0 lo)).toArray.size<=sizeLine
  rw[cA,jM,mw,uX]
  omega
 have o:aP items.size items.size hi<=items.size:=OF _ _ (aI _) hi
 obtain⟨os,d,e,n⟩:=id k
 have f:s.TypeIs (.ref c) "slice":=⟨os,d,e⟩
 unfold getItem
 try with_reducible refine ko ?_
 first|refine aC (aX ?_)|skip
 refine aC (wpAny_sequenceKey b.typeIs (by decide) ?_)
 refine aC (yX (name:=Str.ofString "__getitem__") b.typeIs yW
  (wpAny_call_entry yW b.typeIs entry_tuple_getitem ?_ (args_tuple_getitem _ _)))
 show wpAny _ _ (Builtin.Tuple.tupleItemsOf (.ref t)>>=_) _ _ s
 refine aC (tupleItemsOf_ b ?_)
 refine aC (qo f ?_)
 rw[aA (by decide)]
 refine aC (Py k pl pu ?_)
 have g:¬((((aP items.size 0 lo:Nat):Int)==0&&(1:Int)==1&&(aP items.size items.size hi - aP items.size 0 lo)==items.size)=true):=by
  intro q
  rw[jK,jK] at q
  have p:((aP items.size 0 lo:Nat):Int)=0:=eq_of_beq q.1.1
  have r:aP items.size items.size hi - aP items.size 0 lo=items.size:=eq_of_beq q.2
  exact l ⟨by omega,by omega⟩
 show wpAny _ _ (if (((aP items.size 0 lo:Nat):Int)==0&&(1:Int)==1&&(aP items.size items.size hi - aP items.size 0 lo)==items.size)=true then _ else _) _ _ s
 rw[ay g,NB]
 first
  |exact aC (m:=Builtin.Tuple.tupleExact _) (lS (aX ⟨_,rfl,aX h⟩) a)
  |exact aC (m:=Builtin.Tuple.tupleExact _) (lS (aC (aX (aX ⟨_,rfl,aX h⟩))) a)
  |exact aC (aC (m:=Builtin.Tuple.tupleExact _) (lS (aX (aX ⟨_,rfl,aX h⟩)) a))
  |exact aC (aC (m:=Builtin.Tuple.tupleExact _) (lS (aX ⟨_,rfl,aX h⟩) a))
end
end HT
section
open PySem PySem.Spec PyProof.Rows
namespace L2
abbrev TO:=St->Hp->(Option Int->Hp->Prop)->Prop
def PO(X:Cx)(e:Option Expr)(t:TO):Prop:=
 ∀(pins:aQ) (s:Shared) (σ:St) (H:Hp) (Q:Option Int->Hp->Prop),Inv X pins σ H s->t σ H Q->
  wpAny (model X.prog X.w) X.A (evalPart e X.env) (λu s'=>∃o H',Inv X pins σ H' s'/\IsPart u o/\Q o H') X.xe s
def Qj:TO:=λ_ H Q=>Q none H
def yK(t:TE):TO:=λσ H Q=>t σ H λx H1=>∃i,x=.int i/\Q (some i) H1
section
variable{X:Cx}{e:Expr}{te:TE}{lo hi:Option Expr}{tl th:TO}{pos p2:Pos}
theorem NH:PO X none Qj:=by
 intro pins s σ H Q I h;rw[evalPart_none];exact aX ⟨none,H,I,.none,h⟩
theorem Du(h:PE X e te):PO X (some e) (yK te):=by
 intro pins s σ H Q I a;rw[evalPart_some];refine aK (h pins s σ H _ I a) λu f ⟨x,H1,b,c,d⟩=>?_;obtain⟨i,rfl,q⟩:=d;obtain⟨t,rfl⟩:=c;exact⟨some i,H1,b,.int i t,q⟩
def kG(X:Cx)(r:V->Option Int->Option Int->Hp->VK->Prop):Prop:=
 ∀(pins:aQ) (s:Shared) (σ:St) (H:Hp) (x:V) (v vl vu:Value) (lo hi:Option Int) (sl:Addr) (Q:VK),Inv X pins σ H s->RelV x v->s.heap.IsSliceOf sl vl vu .none->IsPart vl lo->IsPart vu hi->r x lo hi H Q->
  ∃T id,typeLookup (.type T) "__getitem__"=pure (some (.builtin id))/\s.TypeIs v T/\wpAny (model X.prog X.w) X.A (getItem v (.ref sl)) (EP X pins σ Q) X.xe s
theorem kG.or{r r':V->Option Int->Option Int->Hp->VK->Prop}(h:kG X r)(h':kG X r'):kG X (λx lo hi H Q=>r x lo hi H Q\/r' x lo hi H Q):=by
 intro pins s σ H x v a b lo hi c Q I d e pl pu q;rcases q with q|q
 .exact h pins s σ H x v a b lo hi c Q I d e pl pu q
 .exact h' pins s σ H x v a b lo hi c Q I d e pl pu q
def Qs(r:V->Option Int->Option Int->Hp->VK->Prop)(te:TE)(tl th:TO):TE:=λσ H Q=>te σ H λx H1=>tl σ H1 λl H2=>th σ H2 λu H3=>r x l u H3 Q
theorem Nk{r:V->Option Int->Option Int->Hp->VK->Prop}(g:kG X r)(i:PE X e te)(hl:PO X lo tl)(j:PO X hi th):PE X (.Subscript e (.Slice lo hi none p2) pos) (Qs r te tl th):=by
 intro pins s σ H Q I h;refine Subscript_ (aK (i pins s σ H _ I h) λv k ⟨x,H1,m,n,o⟩=>?_);refine wpAny_Slice (aK (hl pins k σ H1 _ m o) λc p ⟨l,H2,t,pl,y⟩=>aK (j pins p σ H2 _ t y) λd a ⟨u,f,z,pu,B⟩=>?_);rw[evalPart_none];refine aX ?_;have C:Inv X pins σ f {a with heap:=a.heap.push {cls:=.type "slice",data:=.fields #[c,d,.none]}}:=z.kept (t':=a.toks) λb G q=>bP _ q;obtain⟨T,id,D,E,F⟩:=g pins {a with heap:=a.heap.push {cls:=.type "slice",data:=.fields #[c,d,.none]}} σ f x v c d l u a.heap.objs.size Q C n (Heap.IsSliceOf.new ..) pl pu B;show wpAny (model X.prog X.w) X.A (subscriptTail e (.Slice lo hi none p2) v (.ref a.heap.objs.size)) (EP X pins σ Q) X.xe {a with heap:=a.heap.push {cls:=.type "slice",data:=.fields #[c,d,.none]}};exact tail_any (ops:=[.ref a.heap.objs.size,v]) E D F (by with_unfolding_all rfl)
def jS(xs:List V)(lo hi:Option Int):List V:=(xs.drop (HT.aP xs.length 0 lo)).take (HT.aP xs.length xs.length hi - HT.aP xs.length 0 lo)
theorem AF(xs:List V)(lo hi:Option Int):(jS xs lo hi).length<=xs.length:=by
 unfold jS;rw[jM,mw];omega
def Oi(K:Frag):V->Option Int->Option Int->Hp->VK->Prop:=λx lo hi H Q=>∃a xs,x=.ref a/\bu K H a xs/\
 ¬(HT.aP xs.length 0 lo=0/\HT.aP xs.length xs.length hi=xs.length)/\∀p,H p=none->Q (.ref p) (upd H p (.tup (jS xs lo hi)))
theorem Px:kG X (Oi X.K):=by
 intro pins s σ H x v j k lo hi l Q I e f pl pu h;obtain⟨a,xs,rfl,g,i,q⟩:=h;cases e;obtain⟨its,r,d,hz⟩:=I.tuple g;have c:its.toArray.size=xs.length:=by rw[cA];exact r.length.symm
 refine⟨"tuple",_,yW.lookup,d.typeIs,?_⟩;refine HT.JU d f pl pu (by rw[c];exact i) ?_ (by rw[c];exact hz);rw[c];refine⟨.ref s.heap.objs.size,_,I.laid (t':=s.toks) (o:=.tup (jS xs lo hi)) (λb m q=>bP _ q) (aI _) ?_,rfl,q _ (I.hok.fresh (aI _))⟩;exact⟨dU (AF xs lo hi) hz,_,(r.drop (HT.aP xs.length 0 lo)).take (HT.aP xs.length xs.length hi - HT.aP xs.length 0 lo),jP.new _ _⟩
def Of(K:Frag):R2:=λx y H Q=>∃a b xs ys,x=.ref a/\y=.ref b/\bu K H a xs/\bu K H b ys/\xs≠[]/\xs.length+ys.length<=sizeLine/\
 (ys=[]->Q (.ref a) H)/\(ys≠[]->∀p,H p=none->Q (.ref p) (upd H p (.tup (xs++ys))))
theorem Vals.xV{xs:List V}{a:List Value}(r:Vals xs a):a=[]↔xs=[]:=by
 cases r with
 |nil=>simp
 |cons _ _=>simp
theorem ME:a_ X (binaryOp .Add) (Of X.K):=by
 intro pins s σ H x y v u Q I f g h;obtain⟨a,b,xs,ys,rfl,rfl,i,j,k,hz,l,m⟩:=h;cases f;cases g;obtain⟨its,d,n,_⟩:=I.tuple i;obtain⟨e,c,p2,_⟩:=I.tuple j;refine HT.G9 n p2 (λz=>k (d.xV.mp z)) (λz=>⟨.ref a,H,I,rfl,l (c.xV.mp z)⟩) (λz=>?_) (by rw[<-d.length,<-c.length];exact hz);refine⟨.ref s.heap.objs.size,_,I.laid (t':=s.toks) (o:=.tup (xs++ys)) (λb p q=>bP _ q) (aI _) ?_,rfl,m (λw=>z (c.xV.mpr w)) _ (I.hok.fresh (aI _))⟩;exact⟨by rw[dI];exact hz,_,d.append c,jP.new _ _⟩
end
def jc(n:Nat)(i:Int):Option Nat:=if 0<=i then (if i<n then some i.toNat else none) else if -(n:Int)<=i then some (i+n).toNat else none
def cM{α:Type}(xs:List α)(i:Int):Option α:=(jc xs.length i).bind λj=>xs[j]?
theorem K6{n:Nat}{i:Int}{j:Nat}(h:jc n i=some j):seqIndex? i n=some j/\j<n/\-(n:Int)<=i/\i<n:=by
 unfold jc at h;by_cases h0:0<=i
 .rw[aA h0] at h
  by_cases h1:i<n
  .rw[aA h1] at h
   have e:i.toNat=j:=Option.some.inj h;exact⟨by rw[seqIndex_of h0 h1,e],by omega,by omega,h1⟩
  .rw[ay h1] at h;cases h
 .rw[ay h0] at h
  by_cases h1: -(n:Int)<=i
  .rw[aA h1] at h
   have e:(i+n).toNat=j:=Option.some.inj h;exact⟨by rw[seqIndex_neg (by omega) h1,e],by omega,h1,by omega⟩
  .rw[ay h1] at h;cases h
theorem vC{α:Type}{xs:List α}{i:Int}{v:α}(h:cM xs i=some v):∃j,seqIndex? i xs.length=some j/\xs[j]?=some v/\j<xs.length/\-(xs.length:Int)<=i/\i<xs.length:=by
 unfold cM at h;cases e:jc xs.length i with
 |none=>rw[e] at h;cases h
 |some j=>
  rw[e] at h;obtain⟨h1,h2,a,b⟩:=K6 e;exact⟨j,h1,h,h2,a,b⟩
theorem iG{α:Type}{xs:List α}{j:Nat}{v:α}(h:xs[j]?=some v):cM xs (j:Int)=some v:=by
 have a:j<xs.length:=(bR.mp h).1;have e:jc xs.length (j:Int)=some j:=by
  unfold jc;rw[aA (by omega),aA (by omega)];simp
 unfold cM;rw[e];exact h
def vj(b:Expr):Prop:=∀o i,subscripted b false o i=operate [o,i] (getItem o i)
def iE(X:Cx)(r:R2):Prop:=
 ∀(value slice:Expr) (pins:aQ) (s:Shared) (σ:St) (H:Hp) (x y:V) (v u:Value) (Q:VK),Inv X pins σ H s->RelV x v->RelV y u->r x y H Q->
  subscripted slice false v u=operate [v,u] (getItem v u)->wpAny (model X.prog X.w) X.A (subscriptTail value slice v u) (EP X pins σ Q) X.xe s
def oj(X:Cx)(id:String)(r:V->List V->Hp->VK->Prop):Prop:=
 ∀(pins:aQ) (s:Shared) (σ:St) (H:Hp) (x:V) (xs:List V) (v:Value) (us:List Value) (Q:VK),Inv X pins σ H s->RelV x v->Vals xs us->r x xs H Q->
  wpAny (model X.prog X.w) X.A (call (.builtin id) (v::us)) (EP X pins σ Q) X.xe s
section
variable{X:Cx}{a b:Expr}{ta tb:TE}{pos:Pos}
theorem iE.or{r r':R2}(h:iE X r)(h':iE X r'):iE X (λx y H Q=>r x y H Q\/r' x y H Q):=by
 intro value slice pins s σ H x y v u Q I a b q c;rcases q with q|q
 .exact h value slice pins s σ H x y v u Q I a b q c
 .exact h' value slice pins s σ H x y v u Q I a b q c
theorem Nc{r:R2}(c:iE X r)(d:PE X a ta)(e:PE X b tb)(f:vj b):PE X (.Subscript a b pos) (p_ r ta tb):=by
 intro pins s σ H Q I h;exact Subscript_ (vI d e I h λv u g x y H2 i j k q=>c a b pins g σ H2 x y v u Q i j k q (f _ _))
def DM(K:Frag):R2:=λx y H Q=>∃p xs i v,x=.ref p/\y=.int i/\aS K H p xs/\cM xs i=some v/\Q v H
def DO(K:Frag):R2:=λx y H Q=>∃p xs i v,x=.ref p/\y=.int i/\bu K H p xs/\cM xs i=some v/\Q v H
def DN:R2:=λx y H Q=>∃z i c,x=.str z/\y=.int i/\z.length<=sizeLine/\cM z.cps.toList i=some c/\Q (.str ⟨#[c]⟩) H
theorem K8:iE X (DM X.K):=by
 intro value slice pins s σ H x y v u Q I e f h c;obtain⟨p,xs,i,z,rfl,rfl,g,k,q⟩:=h;cases e;obtain⟨t,rfl⟩:=f;obtain⟨its,r,pl,hz⟩:=I.list g;obtain⟨j,h1,h2,n,l,m⟩:=vC k;obtain⟨w,d,a⟩:=r.get h2;have hl:=r.length;have o:=pH;have fin:EP X pins σ Q w s:=⟨z,H,I,a,q⟩;by_cases h0:0<=i
 .have b:i.toNat=j:=by
   rw[seqIndex_of h0 m] at h1;exact Option.some.inj h1
  exact item_listR pl.isList h0 (by omega) (by rw[b];simpa using d) fin c
 .have b:(i+(its.toArray.size:Int)).toNat=j:=by
   rw[seqIndex_neg (by omega) l] at h1;rw[cA,<-hl];exact Option.some.inj h1
  exact subscriptTail_builtinR (x:=w) pl.isList.typeIs slot_list_getitem.lookup
   (wpAny_getItem_list_neg (Q:=λr s'=>r=w/\EP X pins σ Q r s') pl.isList (by omega) (by rw[cA]<;>omega) (by omega) (by rw[b];simpa using d) ⟨rfl,fin⟩) c
theorem La:iE X (DO X.K):=by
 intro value slice pins s σ H x y v u Q I b c h d;obtain⟨p,xs,i,z,rfl,rfl,e,f,q⟩:=h;cases b;obtain⟨t,rfl⟩:=c;obtain⟨its,r,pl,hz⟩:=I.tuple e;obtain⟨j,h1,h2,k,l,m⟩:=vC f;obtain⟨w,g,a⟩:=r.get h2;have hl:=r.length;have n:=pH;have fin:EP X pins σ Q w s:=⟨z,H,I,a,q⟩;exact subscriptTail_builtinR (x:=w) pl.typeIs slot_tuple_getitem.lookup
  (getItem_tuple (j:=j) (Q:=λr s'=>r=w/\EP X pins σ Q r s') pl (by omega) (by omega) (by rw[cA,<-hl];exact h1) (by simpa using g) ⟨rfl,fin⟩) d
theorem K_:iE X DN:=by
 intro value slice pins s σ H x y v u Q I a b h d;obtain⟨z,i,c,rfl,rfl,hz,e,q⟩:=h;obtain⟨t,rfl⟩:=a;obtain⟨t',rfl⟩:=b;obtain⟨j,h1,h2,m,f,g⟩:=vC e;have hl:z.cps.toList.length=z.length:=by simp[Str.length]
 rw[hl] at h1 f g;have n:=pH;exact tail_any (typeIs_str s z t) slot_str_getitem.lookup (getItem_str (c:=c) (by
  have k:decide (i< -(2 ^ 63:Int))=false:=eL (by omega);have l:decide (i≥2 ^ 63)=false:=eL (by omega);rw[k,l,Bool.or_false]) (by rw[h1];simpa using h2) ⟨.str ⟨#[c]⟩,H,I.tok _,⟨_,rfl⟩,q⟩) d
def DI(K:Frag):R2:=λx y H Q=>DM K x y H Q\/DO K x y H Q\/DN x y H Q
theorem K9:iE X (DI X.K):=K8.or (La.or K_)
theorem PB(lo hi:Option Int)(n:Nat):(sliceBounds lo hi none n).1=((HT.aP n 0 lo:Nat):Int)/\(sliceBounds lo hi none n).2.1=((HT.aP n n hi:Nat):Int)/\(sliceBounds lo hi none n).2.2=1:=by
 refine⟨?_,?_,rfl⟩
 .cases lo with
  |none=>simp[sliceBounds,HT.aP]
  |some i=>
   simp only[sliceBounds,HT.aP,getD_none,show(1:Int)>0 by decide,if_true];by_cases h:i<0
   .simp only[h,if_true]<;>omega
   .simp only[h,if_false]<;>omega
 .cases hi with
  |none=>simp[sliceBounds,HT.aP]
  |some i=>
   simp only[sliceBounds,HT.aP,getD_none,show(1:Int)>0 by decide,if_true];by_cases h:i<0
   .simp only[h,if_true]<;>omega
   .simp only[h,if_false]<;>omega
theorem Pz(its:List Value)(lo hi:Option Int):slicePick its.toArray lo hi none=((its.drop (HT.aP its.length 0 lo)).take (HT.aP its.length its.length hi - HT.aP its.length 0 lo)).toArray:=by
 obtain⟨h1,h2,a⟩:=PB lo hi its.toArray.size;unfold slicePick;rw[h1,h2,a];simp only[sliceRange_one,pick_run,cA]<;>rfl
def Oh(K:Frag):V->Option Int->Option Int->Hp->VK->Prop:=λx lo hi H Q=>∃a xs,x=.ref a/\aS K H a xs/\∀p,H p=none->Q (.ref p) (upd H p (.lst (jS xs lo hi)))
theorem Pw:kG X (Oh X.K):=by
 intro pins s σ H x v i j lo hi k Q I e f pl pu h;obtain⟨a,xs,rfl,g,q⟩:=h;cases e;obtain⟨its,r,d,hz⟩:=I.list g;have c:=r.length;refine⟨"list",_,slot_list_getitem.lookup,d.isList.typeIs,?_⟩;refine wpAny_getItem_list_slice d.isList f pl pu .none (by simp) ?_ (by rw[cA]<;>omega);rw[Pz,<-c];refine⟨.ref s.heap.objs.size,_,I.laid (t':=s.toks) (o:=.lst (jS xs lo hi)) (λb l q=>bP _ q) (aI _) ?_,rfl,q _ (I.hok.fresh (aI _))⟩;exact⟨dU (AF xs lo hi) hz,_,0,(r.drop (HT.aP xs.length 0 lo)).take (HT.aP xs.length xs.length hi - HT.aP xs.length 0 lo),eT _ rfl⟩
def i_:V->Bool
 |.ai=>true
 |.bl _=>true
 |.int _=>true
 |.str _=>true
 |_=>false
def gY:V->V->Bool
 |.ai,.ai=>true
 |.bl a,.bl b=>a==b
 |.bl a,.int b=>(if a then 1 else 0)==b
 |.int a,.bl b=>a==(if b then 1 else 0)
 |.int a,.int b=>a==b
 |.str a,.str b=>a==b
 |_,_=>false
theorem IJ{A:Around}{s:Shared}{y x:V}{u v:Value}(d:RelV y u)(c:RelV x v)(f:i_ y=true)(e:i_ x=true):SeqAt.EqAt A s u v (gY y x):=by
 cases y with
 |ai=>
  cases d;cases x with
  |ai=>cases c;exact SeqAt.EqAt.same _
  |bl b=>cases c;exact SeqAt.EqAt.none_bool b
  |int b=>obtain⟨t,rfl⟩:=c;exact SeqAt.EqAt.none_int b t
  |str b=>obtain⟨t,rfl⟩:=c;exact SeqAt.EqAt.none_str b t
  |_=>exact absurd (show false=true from e) b9
 |bl a=>
  cases d;cases x with
  |ai=>cases c;exact SeqAt.EqAt.bool_none a
  |bl b=>cases c;exact SeqAt.EqAt.bool_bool a b
  |int b=>obtain⟨t,rfl⟩:=c;exact SeqAt.EqAt.bool_int a b t
  |str b=>obtain⟨t,rfl⟩:=c;exact SeqAt.EqAt.bool_str a b t
  |_=>exact absurd (show false=true from e) b9
 |int a=>
  obtain⟨t',rfl⟩:=d;cases x with
  |ai=>cases c;exact SeqAt.EqAt.int_none a t'
  |bl b=>cases c;exact SeqAt.EqAt.int_bool a t' b
  |int b=>obtain⟨t,rfl⟩:=c;exact SeqAt.EqAt.int_int a t' b t
  |str b=>obtain⟨t,rfl⟩:=c;exact SeqAt.EqAt.int_str a t' b t
  |_=>exact absurd (show false=true from e) b9
 |str a=>
  obtain⟨t',rfl⟩:=d;cases x with
  |ai=>cases c;exact SeqAt.EqAt.str_none a t'
  |bl b=>cases c;exact SeqAt.EqAt.str_bool a t' b
  |int b=>obtain⟨t,rfl⟩:=c;exact SeqAt.EqAt.str_int a t' b t
  |str b=>obtain⟨t,rfl⟩:=c;exact SeqAt.EqAt.str_str a t' b t
  |_=>exact absurd (show false=true from e) b9
 |_=>exact absurd (show false=true from f) b9
def gb(x:V)(u:Value):Bool:=match u with
 |.none=>gY .ai x
 |.bool b=>gY (.bl b) x
 |.int i _=>gY (.int i) x
 |.str z _=>gY (.str z) x
 |_=>false
theorem Bt{x y:V}{u:Value}(r:RelV y u)(f:i_ y=true):gb x u=gY y x:=by
 cases y with
 |ai=>cases r;rfl
 |bl b=>cases r;rfl
 |int i=>obtain⟨t,rfl⟩:=r;rfl
 |str z=>obtain⟨t,rfl⟩:=r;rfl
 |_=>exact absurd (show false=true from f) b9
theorem oH{x:V}:∀{xs:List V} {a:List Value},Vals xs a->xs.all i_=true->a.any (gb x)=xs.any λy=>gY y x
 |_,_,.nil,_=>rfl
 |y::xs,u::a,.cons r t,f=>by
  rw[List.all_cons,jK] at f;rw[l7,l7,Bt r f.1,oH t f.2]
theorem pK{A:Around}{s:Shared}{x:V}{v:Value}(b:RelV x v)(c:i_ x=true):∀{xs:List V} {a:List Value},Vals xs a->xs.all i_=true->∀u∈a,SeqAt.EqAt A s u v (gb x u)
 |_,_,.nil,_=>λu hu=>by cases hu
 |y::xs,u::a,.cons r t,f=>λd hu=>by
  rw[List.all_cons,jK] at f;rcases cu.mp hu with rfl|hu
  .rw[Bt r f.1];exact IJ r b f.1 c
  .exact pK b c t f.2 d hu
def rQ(x:V)(xs:List V):Bool:=xs.any λy=>gY y x
def ym(K:Frag)(neg:Bool):R2:=λx y H Q=>∃p xs,y=.ref p/\(aS K H p xs\/bu K H p xs)/\i_ x=true/\xs.all i_=true/\Q (.bl (if neg then !rQ x xs else rQ x xs)) H
theorem MK:a_ X (compareOp .In) (ym X.K false):=by
 intro pins s σ H x y v u Q I b d h;obtain⟨p,xs,rfl,hq,c,fs,q⟩:=h;cases d;rcases hq with hq|hq
 .obtain⟨its,r,pl,hz⟩:=I.list hq
  refine SeqAt.in_listAt (gb x) pl.isList (λw a=>pK b c r fs w (by simpa using a)) ⟨.bl _,H,I,rfl,?_⟩;rw[show its.toArray.any (gb x)=its.any (gb x) by simp,oH r fs];exact q
 .obtain⟨its,r,pl,hz⟩:=I.tuple hq
  refine SeqAt.in_tupleAt (gb x) pl (λw a=>pK b c r fs w (by simpa using a)) ⟨.bl _,H,I,rfl,?_⟩;rw[show its.toArray.any (gb x)=its.any (gb x) by simp,oH r fs];exact q
theorem MU:a_ X (compareOp .NotIn) (ym X.K true):=by
 intro pins s σ H x y v u Q I b d h;obtain⟨p,xs,rfl,hq,c,fs,q⟩:=h;cases d;rcases hq with hq|hq
 .obtain⟨its,r,pl,hz⟩:=I.list hq
  refine SeqAt.notIn_listAt (gb x) pl.isList (λw a=>pK b c r fs w (by simpa using a)) ⟨.bl _,H,I,rfl,?_⟩;rw[show its.toArray.any (gb x)=its.any (gb x) by simp,oH r fs];exact q
 .obtain⟨its,r,pl,hz⟩:=I.tuple hq
  refine SeqAt.notIn_tupleAt (gb x) pl (λw a=>pK b c r fs w (by simpa using a)) ⟨.bl _,H,I,rfl,?_⟩;rw[show its.toArray.any (gb x)=its.any (gb x) by simp,oH r fs];exact q
theorem G5:eU X (.builtin "len") (λxs H Q=>∃p ys,xs=[.ref p]/\(aS X.K H p ys\/bu X.K H p ys)/\Q (.int ys.length) H):=by
 intro pins s σ H xs c Q I r h;obtain⟨p,ys,rfl,hq,q⟩:=h;obtain⟨u,rfl,b⟩:=vals1 r;cases b;have d:=pH;rcases hq with hq|hq
 .obtain⟨its,r',pl,hz⟩:=I.list hq
  have a:=r'.length;exact Calls.call_len_list pl.isList (by simp only[cA]<;>omega) ⟨.int ys.length,H,I.tok _,⟨s.toks+1,by rw[cA,a]⟩,q⟩
 .obtain⟨its,r',pl,hz⟩:=I.tuple hq
  have a:=r'.length;exact len_tuple pl (by simp only[cA]<;>omega) ⟨.int ys.length,H,I.tok _,⟨s.toks+1,by rw[cA,a]⟩,q⟩
theorem G6:eU X (.builtin "len") (λxs H Q=>∃z,xs=[.str z]/\z.length<=sizeLine/\Q (.int z.length) H):=by
 intro pins s σ H xs a Q I r h;obtain⟨z,rfl,hz,q⟩:=h;obtain⟨u,rfl,t,rfl⟩:=vals1 r;have b:=pH;exact len_str (by omega) ⟨.int z.length,H,I.tok _,⟨_,rfl⟩,q⟩
theorem eU.or{f:Value}{r r':List V->Hp->VK->Prop}(h:eU X f r)(h':eU X f r'):eU X f (λxs H Q=>r xs H Q\/r' xs H Q):=by
 intro pins s σ H xs a Q I rs q;rcases q with q|q
 .exact h pins s σ H xs a Q I rs q
 .exact h' pins s σ H xs a Q I rs q
theorem G7:eU X (.type "list") (λxs H Q=>∃p ys,xs=[.ref p]/\(aS X.K H p ys\/bu X.K H p ys)/\∀l,H l=none->Q (.ref l) (upd H l (.lst ys))):=by
 intro pins s σ H xs f Q I r h;obtain⟨p,ys,rfl,hq,q⟩:=h;obtain⟨u,rfl,d⟩:=vals1 r;cases d;have fin:∀(its:List Value),Vals ys its->ys.length<=sizeLine->∀(h':Heap) (c':Nat),(∀b o',s.heap.get? b=some o'->h'.get? b=some o')->
   h'.get? s.heap.objs.size=some {cls:=.type "list",dict:=none,data:=.seq its.toArray c',slots:= #[]}->EP X pins σ Q (.ref s.heap.objs.size) {s with heap:=h'}:=λits r' hz h' c' kp e=>
  ⟨.ref s.heap.objs.size,_,I.laid (t':=s.toks) kp (aI _) (show bQ X.prog X.w _ h' _ (.lst ys) from⟨hz,its,c',r',e⟩),rfl,q _ (I.hok.fresh (aI _))⟩
 rcases hq with hq|hq
 .obtain⟨its,r',pl,hz⟩:=I.list hq
  have a:=r'.length;obtain⟨o,c,hc,n,hd⟩:=pl.isList;exact call_list_seq p (.inl rfl) c hc hd (λh' c' kp e=>fin its r' hz h' c' kp e) (by simp only[cA]<;>omega)
 .obtain⟨its,r',pl,hz⟩:=I.tuple hq
  have a:=r'.length;obtain⟨o,c,hc,n,hd⟩:=pl;exact call_list_seq p (.inr rfl) c hc hd (λh' c' kp e=>fin its r' hz h' c' kp e) (by simp only[cA]<;>omega)
theorem Ao:eU X (.type "tuple") (λxs H Q=>∃p ys,xs=[.ref p]/\((aS X.K H p ys/\∀l,H l=none->Q (.ref l) (upd H l (.tup ys)))\/(bu X.K H p ys/\Q (.ref p) H))):=by
 intro pins s σ H xs i Q I r h;obtain⟨p,ys,rfl,h⟩:=h;obtain⟨u,rfl,f⟩:=vals1 r;cases f;rcases h with⟨a,q⟩|⟨a,q⟩
 .obtain⟨its,r',pl,hz⟩:=I.list a
  have c:=r'.length;refine call_tuple_list pl.isList (λh' kp=>?_) (by simp only[cA]<;>omega);have d:Inv X pins σ H {s with heap:=h'}:=I.kept (t':=s.toks) kp;have g:Inv X pins σ (upd H h'.objs.size (.tup ys)) {s with heap:=h'.push {cls:=.type "tuple",data:=.seq its.toArray}}:=
   d.laid (t':=s.toks) (λb o e=>bP _ e) (aI _) (show bQ X.prog X.w _ _ _ (.tup ys) from⟨hz,its,r',jP.new _ _⟩)
  exact⟨.ref h'.objs.size,_,g,rfl,q _ (d.hok.fresh (aI _))⟩
 .obtain⟨its,r',pl,hz⟩:=I.tuple a
  exact call_tuple_same pl ⟨.ref p,H,I,rfl,q⟩
def yR(K:Frag)(T:String)(x:V)(H:Hp):Prop:=match x with
 |.str _=>T="str"
 |.int _=>T="int"
 |.ref p=>(T="list"/\∃xs,aS K H p xs)\/(T="tuple"/\∃o,K.lookup p=some o/\o.cls=.type "tuple"/\o.dict=none)\/
  (T="dict"/\((∃kvs,H p=some (.dK kvs))\/∃kvs,H p=some (.dT kvs)))\/(T="set"/\∃S n,H p=some (.set S n))
 |_=>False
theorem QY{pins:aQ}{σ:St}{H:Hp}{s:Shared}{T:String}{x:V}{v:Value}(I:Inv X pins σ H s)(r:RelV x v)(ty:yR X.K T x H):
  s.TypeIs v T/\∀a,v=.ref a->∃f,s.heap.get? a=some f/\f.dict=none:=by
 cases x with
 |str z=>
  obtain⟨t,rfl⟩:=r;cases (show T="str" from ty);exact⟨typeIs_str s z t,λ_ e=>nomatch e⟩
 |int i=>
  obtain⟨t,rfl⟩:=r;cases (show T="int" from ty);exact⟨typeIs_int s i t,λ_ e=>nomatch e⟩
 |ref p=>
  cases r;rcases ty with⟨rfl,xs,g⟩|⟨rfl,o,b,hc,hd⟩|⟨rfl,b⟩|⟨rfl,S,n,b⟩
  .obtain⟨its,_,pl,_⟩:=I.list g
   refine⟨pl.isList.typeIs,λa e=>?_⟩;cases e;obtain⟨o,n,e,c,hd,_⟩:=pl;exact⟨o,e,hd⟩
  .refine⟨⟨o,I.fc p o b,hc⟩,λa e=>?_⟩
   cases e;exact⟨o,I.fc _ o b,hd⟩
  .have z:∃o,s.heap.get? p=some o/\o.ExactDict:=by
    rcases b with⟨kvs,b⟩|⟨kvs,b⟩
    .obtain⟨_,_,_,_,o,_,_,e,ex,_⟩:=I.hok p _ b
     exact⟨o,e,ex⟩
    .obtain⟨_,_,_,_,o,_,_,e,ex,_⟩:=I.hok p _ b
     exact⟨o,e,ex⟩
   obtain⟨o,e,ex⟩:=z;refine⟨⟨o,e,ex.1⟩,λa d=>?_⟩;cases d;exact⟨o,e,ex.2.1⟩
  .obtain⟨o,_,_,_,e,ex,_⟩:=I.hok p _ b
   refine⟨⟨o,e,ex.1⟩,λa d=>?_⟩;cases d;exact⟨o,e,ex.2.1⟩
 |_=>exact False.elim ty
def P8(K:Frag)(T:String)(r:V->List V->Hp->VK->Prop)(to:TE)(t:TA):TE:=λσ H Q=>to σ H λx H1=>yR K T x H1/\t σ H1 λxs H2=>r x xs H2 Q
variable{o e:Expr}{es:List Expr}{to:TE}{t:TA}{name:Str}{apos cpos:Pos}{T id:String}{r:V->List V->Hp->VK->Prop}
theorem Di(k:PlainAttrs T)(slot:Slot T name id)(f:typeOf (.builtin id)=pure (.type "method_descriptor"))(l:oj X id r)(m:PE X o to)(n:PA X (e::es) t)
  (b:attributeBase o name X.env (eval o X.env)=eval o X.env:=by rfl)
  (d:((backTo cpos (starEach (e::es) X.env)).all (λx=> !x.1)&&(backToKw cpos (keywordEach [] X.env)).all (λx=>x.1.isSome)
   &&decide ((e::es).length+([]:List Keyword).length+(if ([]:List Keyword).isEmpty then 0 else 1)<30))=true:=by rfl)
  (c:(apos.endLine==cpos.line)=true:=by rfl)(p:starEach (e::es) X.env=(false,eval e X.env)::starEach es X.env:=by rfl)(a:(backTo cpos (starEach es X.env)).any (·.1)=false:=by rfl):
  PE X (.Call (.Attribute o name apos) (e::es) [] cpos) (P8 X.K T r to t):=by
 intro pins s σ H Q I h
 refine wpAny_Call_method_late b d c rfl (aK (m pins s σ H _ I h) λv q ⟨x,H1,g,i,ty,u⟩=> ?_)
 obtain⟨h1,h2⟩:=QY g i ty
 refine⟨T,id,k,slot,f,h1,h2,?_⟩
 have j:=n cpos pins q σ H1 _ g u
 rw[p] at j ⊢
 refine Calls.callWith_builtin (by show(false||(backTo cpos (starEach es X.env)).any (·.1))=false;rw[a]<;>rfl) (Calls.evalArgs_plain ?_)
 exact aK j λw y ⟨z,H2,A,B,C⟩=>l pins y σ H2 x z v w Q A i B C
end
def oi(X:Cx)(id:String)(r:V->List V->Hp->VK->Prop):Prop:=
 ∀(pins:aQ) (s:Shared) (σ:St) (H:Hp) (x:V) (xs:List V) (v:Value) (us:List Value) (Q:VK),Inv X pins σ H s->RelV x v->Vals xs us->r x xs H Q->
  wpAny (model X.prog X.w) X.A (call (.builtin id) (v::us)) (EP X pins σ Q) X.xe s
theorem Vals.one:∀{x:V} {a:List Value},Vals [x] a->∃u,a=[u]/\RelV x u
 |_,_,.cons r .nil=>⟨_,rfl,r⟩
theorem Vals.eraseIdx:∀{xs:List V} {a:List Value} (i:Nat),Vals xs a->Vals (xs.eraseIdx i) (a.eraseIdx i)
 |_,_,_,.nil=>.nil
 |_,_,0,.cons _ t=>t
 |_,_,i+1,.cons r t=>.cons r (Vals.eraseIdx i t)
theorem Vals.reverse{xs:List V}{a:List Value}(h:Vals xs a):Vals xs.reverse a.reverse:=by
 induction h with
 |nil=>exact .nil
 |cons r t b=>rw[reverse_cons,reverse_cons];exact Vals.append b (.cons r .nil)
theorem Vals.rep{xs:List V}{a:List Value}(h:Vals xs a):∀k:Nat,Vals (replicate k xs).flatten (replicate k a).flatten
 |0=>.nil
 |k+1=>by
  rw[jJ,jJ,nS,nS];exact Vals.append h (Vals.rep h k)
theorem CC{α:Type}:∀(l:List α) (i:Nat),(l.eraseIdx i).length<=l.length
 |[],_=>aI _
 |_::_,0=>le_succ _
 |_::r,i+1=>Nat.succ_le_succ (CC r i)
theorem foldl_rep(its:List Value):∀(k:Nat) (acc:List Value),
  foldl (λa b=>a++b) acc.toArray (replicate k its.toArray)=(acc++(replicate k its).flatten).toArray
 |0,acc=>by simp
 |k+1,acc=>by
  have e:acc.toArray++its.toArray=(acc++its).toArray:=by simp
  have c:(acc++its)++(replicate k its).flatten=acc++(replicate (k+1) its).flatten:=by
   rw[jJ,nS,append_assoc]
  rw[<-c,<-foldl_rep its k (acc++its),<-e,jJ,iA]
section
variable{X:Cx}{pins:aQ}{σ:St}{H:Hp}{s:Shared}{l b:Addr}{xs ys zs:List V}
theorem Inv.xK{its its':List Value}{n:Nat}{f:Array Value->Array Value}{t':Nat}(I:Inv X pins σ H s)(a:H l=some (.lst xs))
  (e:s.heap.get? l=some {cls:=.type "list",data:=.seq its.toArray n})(b:f its.toArray=its'.toArray)(c:Vals ys its')(hz:ys.length<=sizeLine):
  Inv X pins σ (upd H l (.lst ys)) {s with heap:=s.heap.update l (Obj.mapSeq f),toks:=t'}:=by
 have q:=PySem.IsL.update e f;rw[b] at q;refine I.write (x:=l) (e:=l) (by rw[a];exact trivial) (.inl rfl) (λh u d g=>(qw s.heap (Obj.mapSeq f) (Ne.symm d)).trans g) ⟨_,q⟩ ?_;exact⟨hz,its',_,c,q⟩
theorem Inv.CJ{its:List Value}{t':Nat}(I:Inv X pins σ H s)(a:Vals ys its)(hz:ys.length<=sizeLine):
  Inv X pins σ (upd H s.heap.objs.size (.lst ys)) {s with heap:=s.heap.push {cls:=.type "list",data:=.seq its.toArray},toks:=t'}:=
 I.laid (λ_ _ q=>bP _ q) (aI _) ⟨hz,its,0,a,eT _ rfl⟩
theorem Inv.fresh(I:Inv X pins σ H s):H s.heap.objs.size=none:=I.hok.fresh (aI _)
theorem Inv.k9(I:Inv X pins σ H s)(a:H l=some (.lst xs)):xs.length<=sizeLine/\∃(its:List Value) (n:Nat),Vals xs its/\xs.length=its.length/\s.heap.get? l=some {cls:=.type "list",data:=.seq its.toArray n}:=by
 obtain⟨z,its,n,r,e⟩:=I.hok l _ a;exact⟨z,its,n,r,r.length,e⟩
theorem Mq{n:Nat}(h:n<=sizeLine):Builtin.List.listTooLong n=false:=by
 unfold Builtin.List.listTooLong;exact eL (by omega)
end
section
variable{X:Cx}
def yi:V->List V->Hp->VK->Prop:=λx vs H Q=>∃l xs y,x=.ref l/\vs=[y]/\H l=some (.lst xs)/\xs.length<sizeLine/\Q .ai (upd H l (.lst (xs++[y])))
theorem j5:oi X "list.append" yi:=by
 intro pins s σ H x f v g Q I b c h;obtain⟨l,xs,y,rfl,rfl,a,hz,q⟩:=h;cases b;obtain⟨u,rfl,d⟩:=c.one;obtain⟨z,its,n,r,hl,e⟩:=I.k9 a;refine ku F.slot_list_append ⟨_,e,rfl⟩ F.entry_list_append (F.args_list_append_2 _ _) (PySem.list_append l its.toArray n u (by rw[cA];omega)) ⟨e,?_⟩;refine⟨.ai,_,I.xK (its':=its++[u]) a e (by simp) (r.append (.cons d .nil)) ?_,rfl,q⟩;rw[dI,List.length_singleton];omega
def yl:V->List V->Hp->VK->Prop:=λx vs H Q=>∃l b xs zs,x=.ref l/\vs=[.ref b]/\H l=some (.lst xs)/\H b=some (.lst zs)/\xs.length+zs.length<=sizeLine/\Q .ai (upd H l (.lst (xs++zs)))
theorem xU:oi X "list.extend" yl:=by
 intro pins s σ H x p v t Q I f g h;obtain⟨l,b,xs,zs,rfl,rfl,d,i,hz,q⟩:=h;cases f;obtain⟨u,rfl,j⟩:=g.one;cases j;obtain⟨z,its,n,r,hl,e⟩:=I.k9 d;obtain⟨w,a,n2,k,m,o⟩:=I.k9 i;have hsz:its.toArray.size+a.toArray.size<=sizeLine:=by rw[cA,cA];omega
 have c:¬(!its.toArray.isEmpty&&Builtin.List.listTooLong (its.toArray.size+a.toArray.size))=true:=by
  rw[Mq hsz,Bool.and_false];exact b9
 refine ku F.slot_list_extend ⟨_,e,rfl⟩ F.entry_list_extend (F.args_list_extend_2 _ _)
  (AutoSeq1.list_extend_list_list_0 l its.toArray n b a.toArray n2 c (by rw[cA];omega) (by omega)) ⟨e,o,?_⟩
 refine⟨.ai,_,I.xK (its':=its++a) d e (by simp) (r.append k) ?_,rfl,q⟩;rw[dI];omega
def DS:V->List V->Hp->VK->Prop:=λx vs H Q=>∃l xs i k y,x=.ref l/\vs=[.int i]/\H l=some (.lst xs)/\-(2 ^ 63)<=i/\i<2 ^ 63/\seqIndex? i xs.length=some k/\xs[k]?=some y/\Q y (upd H l (.lst (xs.eraseIdx k)))
theorem L8:oi X "list.pop" DS:=by
 intro pins s σ H x o v p Q I c d h;obtain⟨l,xs,i,k,y,rfl,rfl,b,h1,h2,f,g,q⟩:=h;cases c;obtain⟨u,rfl,j⟩:=d.one;obtain⟨t,rfl⟩:=j;obtain⟨z,its,n,r,hl,e⟩:=I.k9 b;obtain⟨w,m,a⟩:=r.get g;refine ku F.slot_list_pop ⟨_,e,rfl⟩ F.entry_list_pop (F.args_list_pop_2 _ _)
  (MeetsSeq.list_pop_at l its.toArray n i t k w (fitsIndex_both h1 h2) (by rw[cA,<-hl];exact f) (by rw[<-Array.getElem?_toList];exact m) (by rw[cA];omega)) ⟨e,?_⟩
 refine⟨y,_,I.xK (its':=its.eraseIdx k) b e ?_ (r.eraseIdx k) ?_,a,q⟩
 .show its.toArray.eraseIdxIfInBounds k=(its.eraseIdx k).toArray
  rw[List.eraseIdxIfInBounds_toArray]
 .have:=CC xs k
  omega
def DF:R2:=λx y H Q=>∃l b xs zs,x=.ref l/\y=.ref b/\H l=some (.lst xs)/\H b=some (.lst zs)/\xs.length+zs.length<=sizeLine/\∀p,H p=none->Q (.ref p) (upd H p (.lst (xs++zs)))
theorem MC:a_ X (binaryOp .Add) DF:=by
 intro pins s σ H x y v u Q I c d h;obtain⟨l,b,xs,zs,rfl,rfl,f,g,hz,q⟩:=h;cases c;cases d;obtain⟨z,its,n,r,hl,e⟩:=I.k9 f;obtain⟨o,a,n2,i,j,k⟩:=I.k9 g;refine PySem.P.add_list e k ?_ (by rw[cA,cA];omega);have m:its.toArray++a.toArray=(its++a).toArray:=by simp
 rw[m];exact⟨.ref _,_,I.CJ (t':=s.toks) (r.append i) (by rw[dI];omega),rfl,q _ I.fresh⟩
theorem len_rep{α:Type}(xs:List α)(k:Nat):(replicate k xs).flatten.length=k*xs.length:=by
 induction k with
 |zero=>simp
 |succ k a=>rw[jJ,nS,dI,a,Nat.succ_mul,Nat.add_comm]
end
section
variable{κ:Type}[DecidableEq κ]
def eG(kvs:List (κ×V))(k:κ):Option V:=(kvs.find? λkv=>decide (kv.1=k)).map (·.2)
def putK(kvs:List (κ×V))(k:κ)(v:V):List (κ×V):=
 if (kvs.any λkv=>decide (kv.1=k))=true then kvs.map (λkv=>if kv.1=k then (kv.1,v) else kv) else kvs++[(k,v)]
theorem yV{p:κ×V}{r:List (κ×V)}{k:κ}(e:p.1=k):eG (p::r) k=some p.2:=by simp[eG,jL,e]
theorem yU{p:κ×V}{r:List (κ×V)}{k:κ}(e:¬p.1=k):eG (p::r) k=eG r k:=by simp[eG,jL,e]
theorem Fz(k:κ):∀kvs:List (κ×V),(kvs.any λa=>decide (a.1=k))=(eG kvs k).isSome
 |[]=>rfl
 |p::r=>by
  rw[l7];by_cases e:p.1=k
  .simp only[yV e,cW e,Bool.true_or,Option.isSome_some]
  .rw[yU e,eL e,Bool.false_or];exact Fz k r
theorem xF(kvs:List (κ×V))(k:κ)(v:V):(putK kvs k v).length<=kvs.length+1:=by
 unfold putK;split
 .rw[aR];omega
 .rw[dI,jl,length_nil];omega
theorem iF.pA{o:Option V}{u:Option Value}(r:iF o u):o.isSome=u.isSome:=by
 cases o with
 |none=>cases u with
  |none=>rfl
  |some _=>exact(show False from r).elim
 |some _=>cases u with
  |none=>exact(show False from r).elim
  |some _=>rfl
theorem KV.val{kvs:List (κ×V)}{d:List (κ×Value)}(r:KV kvs d)(k:κ):iF (eG kvs k) (valueAt d k):=by
 unfold KV at r;induction r with
 |nil=>exact True.intro
 | @cons p q ps a h t f=>
  obtain⟨h1,h2⟩:=h;by_cases e:p.1=k
  .have c:q.1=k:=h1.symm.trans e
   have b:valueAt (q::a) k=some q.2:=by simp[valueAt,jL,c]
   rw[yV e,b];exact h2
  .have c:¬q.1=k:=λz=>e (h1.trans z)
   have b:valueAt (q::a) k=valueAt a k:=by simp[valueAt,jL,c]
   rw[yU e,b];exact f
theorem KV.any{kvs:List (κ×V)}{b:List (κ×Value)}(r:KV kvs b)(k:κ):(kvs.any λa=>decide (a.1=k))=b.any λa=>decide (a.1=k):=by
 unfold KV at r;induction r with
 |nil=>rfl
 |cons h t c=>rw[l7,l7,c,h.1]
theorem KV.repl{kvs:List (κ×V)}{b:List (κ×Value)}(r:KV kvs b)(k:κ){y:V}{u:Value}(c:RelV y u):
  KV (kvs.map λa=>if a.1=k then (a.1,y) else a) (b.map λa=>if a.1=k then (a.1,u) else a):=by
 unfold KV at r ⊢;induction r with
 |nil=>exact .nil
 | @cons p q ps f h t d=>
  rw[cB,cB];refine .cons ?_ d;obtain⟨h1,h2⟩:=h;by_cases e:p.1=k
  .rw[aA e,aA (h1.symm.trans e)];exact⟨h1,c⟩
  .rw[ay e,ay (λz=>e (h1.trans z))];exact⟨h1,h2⟩
theorem KV.put{kvs:List (κ×V)}{a:List (κ×Value)}(r:KV kvs a)(k:κ){y:V}{u:Value}(b:RelV y u):KV (putK kvs k y) (stored a k u):=by
 unfold putK stored;rw[r.any k];by_cases e:(a.any λc=>decide (c.1=k))=true
 .rw[aA e,aA e];exact r.repl k b
 .rw[ay e,ay e];exact Paired.snoc r ⟨rfl,b⟩
theorem KV.keys{kvs:List (κ×V)}{a:List (κ×Value)}(r:KV kvs a):kvs.map (·.1)=a.map (·.1):=by
 unfold KV at r;induction r with
 |nil=>rfl
 |cons h t b=>rw[cB,cB,b,h.1]
theorem KV.length{kvs:List (κ×V)}{a:List (κ×Value)}(r:KV kvs a):kvs.length=a.length:=Paired.length r
end
theorem kY{P:Program}{w:World}{k:Key}{u:Value}(r:RelV (kV k) u):(cO P w).is k u=true:=by
 cases k with
 |inl i=>obtain⟨t,e⟩:=(show ∃t,u=Value.int i t from r);subst e;exact L3 P w i t
 |inr x=>obtain⟨t,e⟩:=(show ∃t,u=Value.str x t from r);subst e;exact L4 P w x t
theorem Cp{P:Program}{w:World}:∀{a:List Key} {b:List Value},Vals (a.map kV) b->ItemsAre (cO P w) a b
 |[],_,r=>by rw[map_nil] at r;cases r;exact .nil
 |k::a,_,r=>by
  rw[cB] at r;cases r with
  |cons h t=>exact .cons (kY h) (Cp t)
abbrev KT(H:Hp):List (List Key×V)->List (List Key×Addr×Value)->Prop:=Paired λp q=>p.1=q.1/\H q.2.1=some (.tup (p.1.map kV))/\RelV p.2 q.2.2
theorem KT.val{H:Hp}{kvs:List (List Key×V)}{xs:List (List Key×Addr×Value)}(r:KT H kvs xs)(k:List Key):iF (eG kvs k) ((atKey xs k).map (·.2)):=by
 induction r with
 |nil=>exact True.intro
 | @cons p q ps a h t d=>
  obtain⟨h1,_,h2⟩:=h;by_cases e:p.1=k
  .have c:q.1=k:=h1.symm.trans e
   have b:atKey (q::a) k=some q.2:=by simp[atKey,jL,c]
   rw[yV e,b];exact h2
  .have c:¬q.1=k:=λz=>e (h1.trans z)
   have b:atKey (q::a) k=atKey a k:=by simp[atKey,jL,c]
   rw[yU e,b];exact d
theorem KT.repl{H:Hp}{kvs:List (List Key×V)}{xs:List (List Key×Addr×Value)}(r:KT H kvs xs)(k:List Key){y:V}{u:Value}(b:RelV y u):
  KT H (kvs.map λa=>if a.1=k then (a.1,y) else a) (xs.map (putAt k u)):=by
 induction r with
 |nil=>exact .nil
 | @cons p q ps f h t c=>
  rw[cB,cB];refine .cons ?_ c;obtain⟨h1,h2,d⟩:=h;unfold putAt;by_cases e:p.1=k
  .rw[aA e,aA (h1.symm.trans e)];exact⟨h1,h2,b⟩
  .rw[ay e,ay (λz=>e (h1.trans z))];exact⟨h1,h2,d⟩
theorem KT.put{H:Hp}{kvs:List (List Key×V)}{xs:List (List Key×Addr×Value)}(r:KT H kvs xs)(k:List Key){b:Addr}{y:V}{u:Value}(c:H b=some (.tup (k.map kV)))(a:RelV y u):
  KT H (putK kvs k y) (storedH xs k b u):=by
 have e:(kvs.any λd=>decide (d.1=k))=(atKey xs k).isSome:=by
  rw[Fz,(r.val k).pA,isSome_map]
 unfold putK storedH;rw[e];by_cases q:(atKey xs k).isSome=true
 .rw[aA q,aA q];exact r.repl k a
 .rw[ay q,ay q];exact Paired.snoc r ⟨rfl,c,a⟩
theorem KT.keeps{H H':Hp}{kvs:List (List Key×V)}{xs:List (List Key×Addr×Value)}(r:KT H kvs xs)(a:∀b ys,H b=some (.tup ys)->H' b=some (.tup ys)):KT H' kvs xs:=
 Paired.jC r λ_ _ z=>⟨z.1,a _ _ z.2.1,z.2.2⟩
section
variable{P:Program}{w:World}{H:Hp}{h:Heap}{a:Addr}
theorem DW{u:HO}(ok:cy P w H h)(e:Rd H a u):bQ P w H h a u:=e.ok ok
theorem kP{kvs:List (Key×V)}(ok:cy P w H h)(e:Rd H a (.dK kvs)):kvs.length<=sizeLine/\(a==sysModules)=false/\∃b,KV kvs b/\h.DictOf (cO P w) a b:=
 show bQ P w H h a (.dK kvs) from DW ok e
theorem rm{kvs:List (Key×V)}(ok:cy P w H h)(e:H a=some (.dK kvs)):kvs.length<=sizeLine/\(a==sysModules)=false/\∃b,KV kvs b/\h.DictOf (cO P w) a b:=kP ok (.inl e)
theorem pF{b:List Key}(ok:cy P w H h)(e:H a=some (.tup (b.map kV))):(tupleKind (cO P w)).is h b a:=by
 obtain⟨_,its,r,p⟩:=(show bQ P w H h a (.tup (b.map kV)) from ok a _ e);obtain⟨o,h1,h2,n,c⟩:=p.is;exact⟨o,its.toArray,n,h1,h2,c,by simpa using Cp r⟩
theorem oX{kvs:List (List Key×V)}(ok:cy P w H h)(e:Rd H a (.dT kvs)):kvs.length<=sizeLine/\(a==sysModules)=false/\
  ∃xs,KT H kvs xs/\h.DictOfH (tupleKind (cO P w)) a xs:=by
 obtain⟨z,y,xs,r,o,es,ep,h1,h2,c,d,f⟩:=(show bQ P w H h a (.dT kvs) from DW ok e);refine⟨z,y,xs,r,o,es,ep,h1,h2,c,d,λx hx=>?_,f⟩;have all:∀{l:List (List Key×V)} {m:List (List Key×Addr×Value)},KT H l m->∀x∈m,(tupleKind (cO P w)).is h x.1 x.2.1:=by
  intro l m q;induction q with
  |nil=>intro x hx;exact nomatch hx
  | @cons p q ps i b t g=>
   intro x hx;rcases cu.mp hx with e|hx
   .subst e
    exact pF ok (by rw[<-b.1];exact b.2.1)
   .exact g x hx
 exact all r x hx
theorem IC{kvs:List (List Key×V)}(ok:cy P w H h)(e:H a=some (.dT kvs)):kvs.length<=sizeLine/\(a==sysModules)=false/\
 ∃xs,KT H kvs xs/\h.DictOfH (tupleKind (cO P w)) a xs:=oX ok (.inl e)
end
def mD(H:Hp)(a:Addr)(y:V)(r:Option V):Prop:=
 (∃kvs k,Rd H a (.dK kvs)/\y=kV k/\r=eG kvs k)\/∃kvs k b,Rd H a (.dT kvs)/\y=.ref b/\H b=some (.tup (k.map kV))/\r=eG kvs k
def nZ(H:Hp)(a:Addr)(y v:V)(H':Hp):Prop:=
 (∃kvs k,H a=some (.dK kvs)/\y=kV k/\kvs.length<sizeLine/\H'=upd H a (.dK (putK kvs k v)))\/
 ∃kvs k b,H a=some (.dT kvs)/\y= .ref b/\H b=some (.tup (k.map kV))/\kvs.length<sizeLine/\H'=upd H a (.dT (putK kvs k v))
theorem nZ.k{H:Hp}{a:Addr}{kvs:List (Key×V)}{k:Key}{v:V}(e:H a=some (.dK kvs))(hl:kvs.length<sizeLine):nZ H a (kV k) v (upd H a (.dK (putK kvs k v))):=.inl ⟨kvs,k,e,rfl,hl,rfl⟩
section
variable{X:Cx}{pins:aQ}{σ:St}{H:Hp}{s:Shared}{a:Addr}{y v:V}{u r:Value}{o:Option V}{A:Around}{E:bw}
theorem Inv.big(I:Inv X pins σ H s):sysModules<s.heap.objs.size:=by
 have h:mainGlobals<s.heap.objs.size:=(I.mod.glob.keeps I.bk).lt;exact lt_trans (by decide) h
theorem HL{Q:bw}(n:A.units+1<cLine)(I:Inv X pins σ H s)(g:mD H a y (some v))(m:RelV y u)(h:∀d s',Inv X pins σ H s'->RelV v d->Q d s'):
  wpAny (model X.prog X.w) A (getItem (.ref a) u) Q E s:=by
 rcases g with⟨kvs,k,e,f,l⟩|⟨kvs,k,b,e,f,q,l⟩
 .subst f
  obtain⟨z,hd,r,rel,dd⟩:=kP I.hok e;obtain⟨d,i,c⟩:=iF.some_of (v:=v) (o:=valueAt r k) (by rw[l];exact rel.val k);exact wpAny_getItem_of (kY m) dd.mapOf i (h d _ (I.tok _) c)
 .subst f
  cases (show u=Value.ref b from m);obtain⟨z,hd,xs,rel,dd⟩:=oX I.hok e;obtain⟨d,i,c⟩:=iF.some_of (v:=v) (o:=(atKey xs k).map (·.2)) (by rw[l];exact rel.val k);obtain⟨p,t,j⟩:=Option.map_eq_some_iff.mp i;refine wpAny_getItem_heap (uF n) (pF I.hok q) dd t ?_;rw[j];exact h d _ (I.tok _) c
theorem HN{Q:bw}(f:A.units+1<cLine)(I:Inv X pins σ H s)(g:mD H a y o)(d:RelV y u)(h:∀s',Inv X pins σ H s'->Q (.bool o.isSome) s'):
  wpAny (model X.prog X.w) A (compareOp .In u (.ref a)) Q E s:=by
 rcases g with⟨kvs,k,e,c,l⟩|⟨kvs,k,b,e,c,i,l⟩
 .subst c
  obtain⟨z,hd,j,rel,dd⟩:=kP I.hok e;refine wpAny_in_of (kY d) hd dd.mapOf ?_;rw[<-(rel.val k).pA,<-l];exact h _ (I.tok _)
 .subst c
  cases (show u=Value.ref b from d);obtain⟨z,hd,xs,rel,dd⟩:=oX I.hok e;refine wpAny_in_heap (uF f) (pF I.hok i) hd dd ?_;have q:=(rel.val k).pA;rw[isSome_map] at q;rw[<-q,<-l];exact h _ (I.tok _)
theorem HV{Q:bw}(f:A.units+1<cLine)(I:Inv X pins σ H s)(g:mD H a y o)(d:RelV y u)(h:∀s',Inv X pins σ H s'->Q (.bool (!o.isSome)) s'):
  wpAny (model X.prog X.w) A (compareOp .NotIn u (.ref a)) Q E s:=by
 rcases g with⟨kvs,k,e,c,l⟩|⟨kvs,k,b,e,c,i,l⟩
 .subst c
  obtain⟨z,hd,j,rel,dd⟩:=kP I.hok e;refine wpAny_notIn_of (kY d) hd dd.mapOf ?_;rw[<-(rel.val k).pA,<-l];exact h _ (I.tok _)
 .subst c
  cases (show u=Value.ref b from d);obtain⟨z,hd,xs,rel,dd⟩:=oX I.hok e;refine wpAny_notIn_heap (uF f) (pF I.hok i) hd dd ?_;have q:=(rel.val k).pA;rw[isSome_map] at q;rw[<-q,<-l];exact h _ (I.tok _)
theorem q8{h':Heap}{t':Nat}{c:HO}(I:Inv X pins σ H s)(d:om (H a))(f:SameBut a s.heap h')(g:∃q,h'.get? a=some q)(new:bQ X.prog X.w (upd H a c) h' a c):
  Inv X pins σ (upd H a c) {s with heap:=h',toks:=t'}:=
 I.write (x:=a) (e:=a) d (.inl rfl) (λb q h z=>(f.2 b h).trans z) g new
theorem v7{P:Program}{w:World}{H':Hp}{h':Heap}{kvs:List (Key×V)}{b:List (Key×Value)}(z:kvs.length<=sizeLine)(hd:(a==sysModules)=false)(rel:KV kvs b)(dd:h'.DictOf (cO P w) a b):
 bQ P w H' h' a (.dK kvs):=⟨z,hd,b,rel,dd⟩
theorem HZ{H':Hp}{Q:Unit->Shared->Prop}(x:A.units+1<cLine)(I:Inv X pins σ H s)(g:nZ H a y v H')(n:RelV y u)(o:RelV v r)(h:∀s',Inv X pins σ H' s'->Q () s'):
  wpAny (model X.prog X.w) A (setItem (.ref a) u r) Q E s:=by
 rcases g with⟨kvs,k,e,i,l,j⟩|⟨kvs,k,b,e,i,p,l,j⟩
 .subst i j
  obtain⟨z,hd,B,rel,dd⟩:=rm I.hok e;have hz:B.length<=sizeLine:=by rw[<-rel.length];exact z
  have hl:(putK kvs k v).length<=sizeLine:=by have:=xF kvs k v;omega
  refine wpAny_setItem_pairs (hsz:=hz) (kY n) dd λh' d m=>h _ ?_;have C:∃q,h'.get? a=some q:=let ⟨q,_,_,f,_⟩:=d;⟨q,f⟩;exact q8 I (by rw[e];exact True.intro) m C (v7 hl hd (rel.put k o) d)
 .subst i j
  cases (show u=Value.ref b from n);obtain⟨z,hd,xs,rel,dd⟩:=IC I.hok e;have hz:xs.length<=sizeLine:=by rw[<-Paired.length rel];exact z
  have hl:(putK kvs k v).length<=sizeLine:=by have:=xF kvs k v;omega
  refine wpAny_setItem_heap (hsz:=hz) (uF x) (pF I.hok p) dd λh' d m=>h _ ?_;obtain⟨q,es,ep,f,h2,D,F,_,G⟩:=d;refine q8 I (by rw[e];exact True.intro) m ⟨q,f⟩ ⟨hl,hd,_,(rel.put k p o).keeps λc ys t=>?_,q,es,ep,f,h2,D,F,G⟩;rw[aV (Mf t e (λz=>nomatch z))];exact t
end
section
variable{X:Cx}{pins:aQ}{σ:St}{H:Hp}{s:Shared}{a:Addr}{kvs:List (Key×V)}{k:Key}{u:Value}{A:Around}{E:bw}
theorem eu{Q:bw}(I:Inv X pins σ H s)(e:Rd H a (.dK kvs))(h:∀t s',Inv X pins σ H s'->Q (.int kvs.length t) s'):wpAny (model X.prog X.w) A (call (.builtin "len") [.ref a]) Q E s:=by
 obtain⟨z,hd,b,rel,dd⟩:=kP I.hok e;refine call_len_dict hd dd (by rw[<-rel.length];rw[sizeLine_eq] at z;omega) ?_;rw[<-rel.length];exact h _ _ (I.tok _)
end
theorem Ip{X:Cx}{pins:aQ}{σ:St}{H:Hp}{s:Shared}{a:Addr}{y:V}{o:Option V}(I:Inv X pins σ H s)(g:mD H a y o):s.TypeIs (.ref a) "dict":=by
 rcases g with⟨kvs,k,e,_,_⟩|⟨kvs,k,b,e,_,_,_⟩
 .obtain⟨_,_,c,_,dd⟩:=kP I.hok e
  exact dd.typeIs
 .obtain⟨_,_,xs,_,dd⟩:=oX I.hok e
  exact dd.typeIs
def OD(td ty tv:TE):TS:=λD σ H=>tv σ H λv H1=>td σ H1 λx H2=>ty σ H2 λy H3=>∃a H4,x=.ref a/\nZ H3 a y v H4/\D.nx σ H4
section
variable{X:Cx}{o i e value:Expr}{pos pos' tpos:Pos}{td ty tv:TE}
theorem NR(b:X.A.units+1<cLine)(c:PE X o td)(hi:PE X i ty)(d:PE X value tv)(e:swapsWith value (some (.Subscript o i pos')) pos.line X.env=pure false):
  PS X (.Assign [.Subscript o i pos'] value pos) (OD td ty tv):=by
 intro pins s σ H D I h;refine wpAny_Assign_Subscript (aK (d pins s σ H _ I h) λr f ⟨v,H1,j,k,l⟩=>aK (c pins f σ H1 _ j l) λu m ⟨x,H2,n,p,q⟩=>aK (hi pins m σ H2 _ n q) λE F ⟨y,G,t,w,a,z,ex,g,B⟩=>?_) e;subst ex;obtain rfl:u=Value.ref a:=p;exact HZ b t g w k λs4 C=>⟨σ,z,C,B⟩
end
theorem Bg{P:Program}{w:World}{H:Hp}(h:Heap)(a:sysModules<h.objs.size):bQ P w H (h.push {cls:=.type "dict",data:=.dict #[]}) h.objs.size (.dK []):=
 ⟨cV _,beq_eq_false_iff_ne.mpr (Ne.symm (cU a)),[],.nil,DictOf.new h⟩
def P_:TE:=λ_ H Q=>∀p,H p=none->Q (.ref p) (upd H p (.dK []))
section
variable{X:Cx}{pos:Pos}
theorem M_:PE X (.Dict [] [] pos) P_:=λpins s σ H Q I h=>
 wpAny_Dict_empty ⟨.ref s.heap.objs.size,_,I.laid (a:=s.heap.objs.size) (o:=.dK []) (t':=s.toks) (λ_ _ q=>bP _ q) (aI _) (Bg s.heap I.big),rfl,h _ (I.hok.fresh (aI _))⟩
end
def yJ:List (TE×TE)->St->Hp->(List (V×V)->Hp->Prop)->Prop
 |[],_,H,Q=>Q [] H
 |(tk,tv)::r,σ,H,Q=>tk σ H λx H1=>tv σ H1 λy H2=>yJ r σ H2 λps H3=>Q ((x,y)::ps) H3
abbrev VV:List (V×V)->List (Value×Value)->Prop:=Paired λp q=>RelV p.1 q.1/\RelV p.2 q.2
def qK(X:Cx)(pos:Pos)(keys:List (Option Expr))(values:List Expr)(yQ:List (TE×TE)):Prop:=
 ∀(pins:aQ) (s:Shared) (σ:St) (H:Hp) (Q:List (V×V)->Hp->Prop),Inv X pins σ H s->yJ yQ σ H Q->
  wpAny (model X.prog X.w) X.A (evalPairs (pairTrees keys values X.env pos)) (λvs s'=>∃ps H',Inv X pins σ H' s'/\VV ps vs/\Q ps H') X.xe s
theorem NO{X:Cx}{pos:Pos}:qK X pos [] [] []:=λpins s σ H Q I h=>pairTrees_nil_walk ⟨[],H,I,.nil,h⟩
theorem NL{X:Cx}{pos:Pos}{k v:Expr}{b:List (Option Expr)}{c:List Expr}{d tv:TE}{a:List (TE×TE)}(e:PE X k d)(f:PE X v tv)(g:qK X pos b c a):
  qK X pos (some k::b) (v::c) ((d,tv)::a):=λpins s σ H Q I h=>
 pairTrees_cons_walk (aK (e pins s σ H _ I h) λu i ⟨x,H1,j,l,m⟩=>aK (f pins i σ H1 _ j m) λz n ⟨y,H2,o,p,q⟩=>
  aK (g pins n σ H2 _ o q) λws A ⟨ps,r,t,rel,w⟩=>⟨(x,y)::ps,r,t,.cons ⟨l,p⟩ rel,w⟩)
def jd(kvs more:List (Key×V)):List (Key×V):=more.foldl (λacc kv=>putK acc kv.1 kv.2) kvs
theorem KV.merge:∀{a:List (Key×V)} {rs:List (Key×Value)} {kvs:List (Key×V)} {b:List (Key×Value)},KV a rs->KV kvs b->KV (jd kvs a) (merged b rs):=by
 intro a rs kvs b r;unfold KV at r;induction r generalizing kvs b with
 |nil=>intro q;exact q
 | @cons p q ps f h t c=>
  intro d;have e:KV (putK kvs p.1 p.2) (stored b q.1 q.2):=by
   have:=d.put p.1 h.2;rw[<-h.1];exact this
  exact c e
theorem xE:∀(a kvs:List (Key×V)),(jd kvs a).length<=kvs.length+a.length
 |[],kvs=>by show kvs.length<=kvs.length+0;omega
 |p::r,kvs=>by
  have h1:=xE r (putK kvs p.1 p.2);have h2:=xF kvs p.1 p.2;show(jd (putK kvs p.1 p.2) r).length<=_;rw[jl];omega
theorem Aq{P:Program}{w:World}:∀{kvs:List (Key×V)} {ws:List (Value×Value)},VV (kvs.map λd=>(kV d.1,d.2)) ws->∃rs,Carries (cO P w) ws rs/\KV kvs rs
 |[],_,r=>by rw[map_nil] at r;cases r;exact⟨[],True.intro,.nil⟩
 |p::kvs,_,r=>by
  rw[cB] at r;cases r with
  | @cons a b as bs h t=>
   obtain⟨rs,c,q⟩:=Aq (P:=P) (w:=w) t;obtain⟨f,e⟩:=b;exact⟨(p.1,e)::rs,⟨kY h.1,rfl,c⟩,.cons ⟨rfl,h.2⟩ q⟩
def Qa(yQ:List (TE×TE)):TE:=λσ H Q=>∀p,H p=none->yJ yQ σ (upd H p (.dK [])) λps H2=>H2 p=some (.dK [])/\∃kvs:List (Key×V),ps=kvs.map (λkv=>(kV kv.1,kv.2))/\kvs.length<=15/\Q (.ref p) (upd H2 p (.dK (jd [] kvs)))
theorem M9{X:Cx}{pos:Pos}{keys:List (Option Expr)}{values:List Expr}{b:List (TE×TE)}(h:qK X pos keys values b)(d:keys.all (·.isSome)=true)(hl:keys.length=values.length)(h0:keys≠[])
  (g:keys.length<=15):PE X (.Dict keys values pos) (Qa b):=by
 intro pins s σ H Q I q;have j:=I.hok.fresh (aI s.heap.objs.size);have k:=I.laid (a:=s.heap.objs.size) (o:=.dK []) (h':=s.heap.push {cls:=.type "dict",data:=.dict #[]}) (t':=s.toks) (λ_ _ q=>bP _ q) (aI _) (Bg s.heap I.big);refine wpAny_Dict_walk (knd:=cO X.prog X.w) d hl h0 g (aK (h pins _ σ _ _ k (q _ j)) λws v ⟨ps,H2,i,rel,e,kvs,ep,lk,l⟩=>?_);subst ep;obtain⟨rs,c,m⟩:=Aq (P:=X.prog) (w:=X.w) rel;obtain⟨z,hd,n,p,dd⟩:=rm i.hok e;cases p;refine⟨rs,c,dd,λh' f r=>⟨.ref s.heap.objs.size,_,?_,rfl,l⟩⟩;have hz:(jd [] kvs).length<=sizeLine:=by
  have h1:=xE kvs [];rw[length_nil] at h1;rw[sizeLine_eq];omega
 have t:∃q,h'.get? s.heap.objs.size=some q:=let ⟨q,_,_,u,_⟩:=f;⟨q,u⟩;exact q8 i (by rw[e];exact True.intro) r t (v7 hz hd (m.merge .nil) f)
end L2
end
namespace zj
open PySem PySem.W PySem.Calls PyProof.Rows
theorem KY{P:Params}{h:Heap}:∀(ns:List Int) (c:List Value),WellAll P h c (ns.map WData.int)->IntsAre c ns:=by
 intro ns;induction ns with
 |nil=>
  intro c w;rw[map_nil] at w;cases w;exact .nil
 |cons n ns d=>
  intro c w;rw[cB] at w;cases w with
  |cons a b=>
   cases a;exact .cons _ _ (d _ b)
theorem Pn{l:OpenLaw}{n:Nat}(m:l.most=some n){P:Params}{h:Heap}{args:List WData}{vals:List Value}
  (b:l.row.toRowW.claim.pre args=true)(i:WellAll P h vals args):
  ∃a k ns,vals=[Value.ref a]/\args=[WData.list (ns.map WData.int)]/\h.get? a=some {cls:=.type "list",data:=.seq k.toArray}/\IntsAre k ns/\ns.length<=n:=by
 have j:WShape.hasAll [] args [.list .int]=true:=(pre_splitW b).1;have hc:l.pre.holds [] {args:=args}=true:=(pre_splitW b).2;obtain⟨d,r,rfl,h1,h2⟩:=hasAllW_cons j;obtain rfl:=hasAllW_nil h2;obtain⟨xs,rfl,o⟩:=hasW_list h1;obtain⟨ns,rfl⟩:=items_int o;have c:ns.length<=n:=by
  unfold OpenLaw.pre at hc;have f:(WTm.not (.lt (.lit (.int (n:Int))) (.len (.arg 0)))).holds [] {args:=[.list (ns.map .int)]}=true:=by
   have f:=(holds_andW hc).1;rw[m] at f;exact f
  have g:=condW_of f (w_not (w_lt w_lit (w_len_list (w_arg rfl))));rw[aR] at g;refine Nat.le_of_not_lt λq=>?_;have p:(n:Int)<((ns.length:Nat):Int):=by omega
  first
   |(rw[cW p] at g;exact absurd g (by decide))
   |(simp at g;omega)
 cases i with
 |cons s t=>
  cases t;cases s with
  |list u e=>exact⟨_,_,ns,rfl,rfl,u,KY ns _ e,c⟩
theorem NJ(l:OpenLaw)(args:List WData):l.row.toRowW.claim.post args (.bool true) args=true:=
 postW_of (r:=l.row.toRowW) (X:=(true==true))
  (show WShape.has [] (.bool true) .bool=true by first|rfl|decide|simp[WShape.has,WShape.arms,WShape.armsAll])
  (show(WTm.eq .res (.lit (.bool true))).value [] {args:=args,res:=some (.bool true),after:=args}=some (.bool (true==true)) from w_eq_bool (w_res rfl) w_lit) rfl
theorem GO{l:OpenLaw}{n:Nat}{q:Program}{loose:List Str}{s:(aq)->Heap->Prop}{t:World->Heap->Prop}{d:DefRec}
  (x:l.most=some n)(j:d.params.defaults=[])
  (call:∀(w:World) (s₀ b:Shared) (mg mb:aq) (e:Addr) (o:Obj) (pm cd doc:Value) (a:Addr) (c:List Value) (ns:List Int),
   Ground q loose [] s w s₀ mg mb b.heap->t w b.heap->
   b.heap.get? e=some o->o.data= .func (docDef d.name d.params d.body d.scope pm cd doc)->b.heap.CodeRec cd d.name->mg d.name=some (.ref e)->
   b.heap.get? a=some {cls:= .type "list",data:= .seq c.toArray}->IntsAre c ns->ns.length<=n->b.gens= #[]->
   codeAny (model l.prog w) callerA (.call (.ref e) ⟨[.ref a],[]⟩) (λr s'=>r= .ok (.ret (.bool true))/\OldK b.heap s'.heap/\s'.os=b.os/\AllBare s'.gens) b):
  WalkO q loose s t l.row.toRowW d [] (λf c=>PySem.call f c):=by
 intro w s₀ b mg mb G Y e o pm cd doc y kV z hd k u m A args vals as g v B p C
 obtain rfl:y= .none:=Dflts.none u j
 obtain rfl:kV= .none:=Dflts.noKw u
 obtain⟨a,c,ns,rfl,rfl,h,hints,i⟩:=Pn x g p
 refine enter_call (codeAny_mono (call w s₀ b mg mb e o pm cd doc a c ns G Y z (fd_plain hd) k m h hints i A) λr s' D=> ?_)
 obtain⟨rfl,h2,E,F⟩:=D
 exact⟨.inl ⟨.bool true,.bool true,[],rfl,λ_=>rfl,.bool true,NJ l _,λ_=>⟨List.Pairwise.nil,λ_ H=>(nomatch H)⟩⟩,h2,E,F⟩
end zj
section
open PySem PySem.Spec PyProof.Rows
namespace L2
theorem FD:∀{a:List Value} {ns:List Int},IntsAre a ns->Vals (ns.map V.int) a
 |_,_,.nil=>.nil
 |_,_,.cons n t h=>.cons ⟨t,rfl⟩ (FD h)
def qJ(H:Hp):Prop:=∀b,H b=none\/∃o xs,H b=some (.bz o (.lst xs))
theorem Lz{P:Program}{w:World}{K:Frag}{mg mb:aq}{CX:iC}{k:Nat}{E a:Addr}{fd:FuncData}{x:Str}{sp:Sp}{c:Shared}{j:List Value}{ns:List Int}
  (O:K.In c.heap)(p:c.heap.Ns mainGlobals mg)(g:c.heap.Ns builtinsNs mb)(G:∀x:Str,x≠"__name__"->mb x=bootBuiltins x)(t:c.heap.NoLimit)(U:c.gens= #[])
  (D:c.heap.get? a=some {cls:= .type "list",data:= .seq j.toArray})(hi:IntsAre j ns)(hl:ns.length<=sizeLine)(W:dD k callerA)
  (F:∀base:Heap,K.In base->base.Ns mainGlobals mg->fW P w K mg base CX k E fd [x] sp)(l:∀(s:Shared) (u:Value),BindsTo s fd ⟨[u],[]⟩ [(x,u)])
  (I:∀H:Hp,qJ H->aS K H a (ns.map V.int)->sp [.ref a] H (λv _=>v= .bl true) λ_ _ _=>False)
  (J:∀H e s',CX [] H c (λ_ _ _=>False) e s'->False):
  codeAny (model P w) callerA (.call (.ref E) ⟨[.ref a],[]⟩) (λr s'=>r= .ok (.ret (.bool true))/\OldK c.heap s'.heap/\s'.os=c.os/\AllBare s'.gens) c:=by
 have Q:=FD hi
 have y:=hi.length
 have core:∀H:Hp,qJ H->aS K H a (ns.map V.int)->cy P w H c.heap->(∀b,H b≠none->b=a)->(H a≠none->K.lookup a=none)->
   codeAny (model P w) callerA (.call (.ref E) ⟨[.ref a],[]⟩) (λr s'=>r= .ok (.ret (.bool true))/\OldK c.heap s'.heap/\s'.os=c.os/\AllBare s'.gens) c:=by
  intro H R X hok S Y
  have f:∀{b:Addr} {o:Obj},c.heap.get? b=some o->H b=none->(jx c.heap H).get? b=some o:=λe n=>Ke e n
  have L:∀{b:Addr} {o:Obj} {es:Array DictEntry} {ep:Nat},c.heap.get? b=some o->o.data= .dict es ep->H b=none:=λ {b o es ep} e d=>by
   cases q:H b with
   |none=>rfl
   |some u=>
    have M:b=a:=S b (by rw[q];simp)
    subst M
    rw[D] at e;cases e
    have d':Data.seq j.toArray _=Data.dict es ep:=d
    cases d'
  have i:∀{b:Addr} {m:aq},c.heap.Ns b m->(jx c.heap H).Ns b m:=λ {b m} ⟨o,es,ep,e,d,r⟩=>⟨o,es,ep,f e (L e d),d,r⟩
  have A:K.In (jx c.heap H):=λb o e=>f (O b o e) (by
   cases q:H b with
   |none=>rfl
   |some u=>
    have M:b=a:=S b (by rw[q];simp)
    subst M
    rw[Y (by rw[q];simp)] at e;cases e)
  have Z:Mod K mg (jx c.heap H):=⟨A,i p,⟨mb,i g,G⟩,let ⟨mc,h1,h2⟩:=t;⟨mc,i h1,h2⟩⟩
  have e0:qC P w K mg (jx c.heap H) callerA [] c H:=⟨rfl,Z,λb o e=>Mv e,Nat.le_of_eq (Kf _ _),trivial,λb g=>absurd (show b∈([]:List Addr) from g) (by simp),hok,.of_eq U⟩
  refine codeAny_mono ((F _ A (i p)).run callerA [] c H ⟨[.ref a],[]⟩ [.ref a] [.ref a] _ _ W e0 (l c (.ref a)) (.cons rfl .nil) (I H R X)) λr s' h=> ?_
  cases r with
  |error e=>exact(J H e s' h).elim
  |ok fl=>
   cases fl with
   |next=>exact False.elim h
   |brk=>exact False.elim h
   |cont=>exact False.elim h
   |ret u=>
    obtain⟨v,H',os,bare,un,B,r',q⟩:=h
    have q':v= .bl true:=q
    subst q'
    obtain rfl:u=Value.bool true:=r'
    refine⟨rfl,OldK.of_keep λb o e=> ?_,os,bare⟩
    cases q:H b with
    |none=>exact un.keep b o e q (by intro z;exact absurd (show b∈([]:List Addr) from z) (by simp)) (by simp)
    |some u=>
     rcases R b with z|⟨ob,xs,z⟩
     .rw[q] at z;cases z
     .have z2:=un.fQ b ob _ z
      obtain⟨T,_⟩:=hok b _ z
      obtain⟨e2,_⟩:=B b _ z2
      rw[e] at T;cases T
      exact e2
 cases N:K.lookup a with
 |some o=>
  have e:=O a o N
  rw[D] at e
  cases e
  refine core (λ_=>none) (λ_=> .inl rfl) (.inr ⟨_,j.toArray,_,N,rfl,rfl,rfl,by rw[cA,y];exact hl,by simpa using Q⟩) (λb u z=>by have C:(none:Option HO)=some u:=z;cases C) (λb z=>absurd rfl z) λz=>absurd rfl z
 |none=>
  refine core (λb=>if b=a then some (.bz {cls:= .type "list",data:= .seq j.toArray} (.lst (ns.map V.int))) else none) (λb=> ?_) (.inl (.inr ⟨{cls:= .type "list",data:= .seq j.toArray},aA rfl⟩)) (λb u z=> ?_) (λb z=> ?_) λ_=>N
  .by_cases g:b=a
   .exact .inr ⟨_,_,aA g⟩
   .exact .inl (ay g)
  .by_cases g:b=a
   .have C:=(aA g).symm.trans z
    cases C
    subst g
    exact⟨D,by rw[aR];exact hl,j,_,Q,D⟩
   .have C:=(ay g).symm.trans z
    cases C
  .by_cases g:b=a
   .exact g
   .exact absurd (ay g) z
theorem Q3{l:PySem.W.OpenLaw}{n k:Nat}{q:Program}{loose:List Str}{D:(aq)->Heap->Prop}{A:World->Heap->Prop}{d:DefRec}{K:Params->Frag}{CX:World->iC}{sp:World->Sp}{x:Str}
  (E:l.most=some n)(p:n<=sizeLine)(r:d.params.defaults=[])(I:dD k callerA)
  (J:∀(w:World) (h:Heap),A w h->(K w.params).In h)
  (F:∀(w:World) (mg:aq) (m:Addr) (h:Heap),(K w.params).In h->h.Ns mainGlobals mg->mg d.name=some (.ref m)->
   ∃fd:FuncData,(∀(s:Shared) (u:Value),BindsTo s fd ⟨[u],[]⟩ [(x,u)])/\
    ∀base:Heap,(K w.params).In base->base.Ns mainGlobals mg->fW l.prog w (K w.params) mg base (CX w) k m fd [x] (sp w))
  (t:∀(w:World) (H:Hp) (a:Addr) (ns:List Int),ns.length<=n->qJ H->aS (K w.params) H a (ns.map V.int)->sp w [.ref a] H (λv _=>v= .bl true) λ_ _ _=>False)
  (y:∀(w:World) (H:Hp) (s:Shared) (e:Value) (s':Shared),CX w [] H s (λ_ _ _=>False) e s'->False):
  PySem.W.WalkO q loose D A l.row.toRowW d [] (λf B=>PySem.call f B):=by
 refine zj.GO E r λw s₀ i mg mb m o pm cd doc a B ns G Y R hd L z j hints c M=> ?_
 have C:=J w _ Y
 obtain⟨fd,N,O⟩:=F w mg m _ C G.T.g z
 exact Lz C G.T.g G.T.b G.T.builtins G.T.nolimit M j hints (dU c p) I O N (λH P Q=>t w H a ns c P Q) λH e s'=>y w H i e s'
def jW(s:Stmt):Arguments:=match s with
 |.FunctionDef _ a _ _ _ _ _ _ _ _=>a
 |_=>{posonlyargs:=[],args:=[],vararg:=none,kwonlyargs:=[],kw_defaults:=[],kwarg:=none,defaults:=[]}
def fP(s:Stmt):List Stmt:=match s with
 |.FunctionDef _ _ b _ _ _ _ _ _ _=>b
 |_=>[]
def aJ(s:Stmt):Scope:=match s with
 |.FunctionDef _ _ _ _ _ _ sc _ _ _=>sc
 |_=>{kind:=.function,names:=[],isGenerator:=false,isCoroutine:=false}
structure jn(K:Frag)(x qual:Str)(st:Stmt)(f:Addr)(fd:FuncData):Prop where
 ex:∃(oc:Value) (od:Option Addr) (kV doc pm:Value) (an:Option Addr) (cdv ct:Value) (osl:Array (Option Value)),
  fd=fnOf x qual (jW st) (fP st) (aJ st) .none kV doc pm an cdv ct/\K.lookup f=some ⟨oc,od,.func fd,osl⟩/\codeIn K cdv qual=true
 kp:keepIn K (.ref f)=true
section
variable{P:Program}{w:World}{K:Frag}{mg:aq}{base:Heap}
theorem jn.binds{x qual:Str}{st:Stmt}{f:Addr}{fd:FuncData}{ps:List Str}(F:jn K x qual st f fd)
  (h:∀(kV doc pm:Value) (an:Option Addr) (a ct:Value) (b:List Value),b.length=ps.length->bindArgs (fnOf x qual (jW st) (fP st) (aJ st) .none kV doc pm an a ct) ⟨b,[]⟩=pure (ps.zip b)):Binds K fd ps []:=by
 obtain⟨e,g,kV,doc,pm,an,a,ct,c,rfl,lk,d⟩:=F.ex;exact .all (h kV doc pm an a ct)
theorem wL{x qual:Str}{st:Stmt}{f:Addr}{d:Value}{e an:Option Addr}{b:Array (Option Value)}{kV doc pm a ct:Value}(l:K.lookup f=some ⟨d,e,.func (fnOf x qual (jW st) (fP st) (aJ st) .none kV doc pm an a ct),b⟩)
 (c:codeIn K a qual=true)(k:keepIn K (.ref f)=true):jn K x qual st f (fnOf x qual (jW st) (fP st) (aJ st) .none kV doc pm an a ct):=⟨⟨d,e,kV,doc,pm,an,a,ct,b,rfl,l,c⟩,k⟩
end
section
variable{X:Cx}
theorem G4:eU X (.builtin "len") (λxs H Q=>∃a kvs,xs=[V.ref a]/\H a=some (.dK kvs)/\Q (.int kvs.length) H):=by
 intro pins s σ H xs e Q I r h;obtain⟨a,kvs,rfl,b,q⟩:=h;obtain⟨u,rfl,c⟩:=vals1 r;cases c;exact eu I (.inl b) λt s' d=>⟨.int kvs.length,H,d,⟨t,rfl⟩,q⟩
end
theorem K4{A B:Prop}(h:B):if false=true then A else B:=by
 rw[ay b9];exact h
theorem K5{A B:Prop}(h:A):if true=true then A else B:=by
 rw[aA rfl];exact h
def jq(H H':Hp):Prop:=∀b o,H b=some o->H' b=some o
end L2
end
namespace PySem
open Sem (wp)
namespace ZL
abbrev iT(h:Heap)(z TI TO:Addr)(f0 f1:Value):Prop:=
 h.get? z=some {cls:=.type "zip",dict:=none,data:=.fields #[f0,f1,.bool false,.ref TI,.ref TO],slots:= #[]}
section
variable{prog:Program}{w:World}{A:Around}{E:bw}{s:Shared}
theorem Q_{z TI TO i1 i2 l1 l2 T:Addr}{F:Obj}{m:Bool}{k1 k2:Nat}{xs ys:Array Value}{x y:Value}{Q:bw}(D:ZipApart z TI TO i1 i2 l1 l2)
  (hz:iT s.heap z TI TO (rawInt T) (.bool m))(H:s.heap.get? T=some F)(I:T≠z)(n:IsPair s.heap TI (.ref i1) (.ref i2))
  (h1:s.heap.IsListIter i1 l1 k1)(h2:s.heap.IsListIter i2 l2 k2)(q:s.heap.IsList l1 xs)(t:s.heap.IsList l2 ys)(J:xs[k1]? =some x)(K:ys[k2]? =some y)
  (L:∀h',iT h' z TI TO (rawInt T) (.bool true)->h'.IsListIter i1 l1 (k1+1)->h'.IsListIter i2 l2 (k2+1)->IsPair h' s.heap.objs.size x y->h'.objs.size=s.heap.objs.size+1->
   (∀c o,c≠z->c≠i1->c≠i2->s.heap.get? c=some o->h'.get? c=some o)->Q (.ref s.heap.objs.size) {s with heap:=h'}):
  wpAny (model prog w) A (Builtin.«zip.__next__» ⟨[.ref z],[]⟩) (λfin s'=>∃v,fin= .done (.ret v)/\Q v s') E s:=by
 show wpAny _ _ (field (.ref z) 2>>=_) _ _ _
 refine aC (iP hz rfl (x:= .bool false) rfl ?_)
 show wpAny _ _ (field (.ref z) 3>>=_) _ _ _
 refine aC (iP hz rfl (x:= .ref TI) rfl ?_)
 refine aC (uI n rfl ?_)
 show wpAny _ _ (Builtin.SmallTypes.ownedTupleIsFree (.ref z)>>=_) _ _ _
 have first:wpAny (model prog w) A (Builtin.SmallTypes.ownedTupleIsFree (.ref z)) (λb s'=>b=false/\∃f,s'={s with heap:=f}/\iT f z TI TO (rawInt T) (.bool true)/\SameBut z s.heap f) E s:=by
  unfold Builtin.SmallTypes.ownedTupleIsFree
  refine aC (iP hz rfl (x:=rawInt T) rfl ?_)
  show wpAny _ _ (loadIfAlive ((T:Int)).toNat>>=_) _ _ _
  have M:∀{R:Option Obj->Shared->Prop},R (some F) s->wpAny (model prog w) A (loadIfAlive ((T:Int)).toNat) R E s:=λ {R} h=>by
   intro O p _
   unfold loadIfAlive
   rw[Sem.wp_loadIfAlive,nM,H]
   exact h
  refine aC (M ?_)
  rw[ay (by simp)]
  refine aC (iP hz rfl (x:= .bool m) rfl ?_)
  cases m with
  |true=>exact aX ⟨rfl,s.heap,rfl,hz,.refl ..⟩
  |false=>
   show wpAny _ _ (setField (.ref z) 1 (.bool true)>>=_) _ _ _
   exact aC (wpAny_setField_rec hz (by simp) λf i a=>aX ⟨rfl,f,rfl,i,a⟩)
 refine aC (nO first (λb s' N=> ?_) λ_ _ e=>e)
 obtain⟨rfl,f,rfl,i,a⟩:=N
 show wpAny _ _ (forIn _ _ _>>=_) _ _ _
 refine aC ?_
 rw[<-Array.forIn_toList]
 simp only[forIn_cons,forIn_nil]
 refine aC (aC (ko ?_))
 show wpAny _ _ (Builtin.SmallTypes.nextOf (.ref i1)>>=_) _ _ _
 refine aC (yY (h1.extBut a.extBut D.i1z) (q.extBut a.extBut D.l1z) J λG k d=>aX (aX ?_))
 refine aC (aC (ko ?_))
 show wpAny _ _ (Builtin.SmallTypes.nextOf (.ref i2)>>=_) _ _ _
 refine aC (yY ((h2.extBut a.extBut D.i2z).extBut d.extBut D.i12.symm) ((t.extBut a.extBut D.l2z).extBut d.extBut D.l2i1) K λj l g=>aX (aX (aX ?_)))
 show wpAny _ _ (newTuple [x,y]>>=λr=>ret r) _ _ _
 have hsz:j.objs.size=s.heap.objs.size:=by rw[g.1,d.1,a.1]
 refine aC (lS (aX ⟨_,rfl,?_⟩) (by show 2<=sizeLine;decide))
 show Q (.ref j.objs.size) _
 rw[hsz]
 have up:∀c o,c≠z->c≠i1->c≠i2->s.heap.get? c=some o->j.get? c=some o:=λc o u B C e=>g.extBut _ _ C (d.extBut _ _ B (a.extBut _ _ u e))
 refine L _ (bP _ (g.extBut _ _ D.i2z.symm (d.extBut _ _ D.i1z.symm i))) ((k.extBut g.extBut D.i12).at λo e=>bP _ e) (l.at λo e=>bP _ e) ?_ (by rw[size_push,hsz]) λc o u B C e=>bP _ (up c o u B C e)
 rw[<-hsz]
 exact eT _ rfl
theorem MY{z TI TO T:Addr}{f:Obj}{e:Bool}(hz:iT s.heap z TI TO (rawInt T) (.bool e))(g:s.heap.get? T=some f):
  wpAny (model prog w) A (Builtin.SmallTypes.ownedTupleIsFree (.ref z)) (λb s'=>b=false/\∃a,s'={s with heap:=a}/\iT a z TI TO (rawInt T) (.bool true)/\SameBut z s.heap a) E s:=by
 unfold Builtin.SmallTypes.ownedTupleIsFree;refine aC (iP hz rfl (x:=rawInt T) rfl ?_);show wpAny _ _ (loadIfAlive ((T:Int)).toNat>>=_) _ _ _;have i:∀{R:Option Obj->Shared->Prop},R (some f) s->wpAny (model prog w) A (loadIfAlive ((T:Int)).toNat) R E s:=λ {R} h=>by
  intro j p _;unfold loadIfAlive;rw[Sem.wp_loadIfAlive,nM,g];exact h
 refine aC (i ?_);rw[ay (by simp)];refine aC (iP hz rfl (x:=.bool e) rfl ?_);cases e with
 |true=>exact aX ⟨rfl,s.heap,rfl,hz,.refl ..⟩
 |false=>
  show wpAny _ _ (setField (.ref z) 1 (.bool true)>>=_) _ _ _;exact aC (wpAny_setField_rec hz (by simp) λa c d=>aX ⟨rfl,a,rfl,c,d⟩)
theorem Q9{z TI TO i1 i2 l1 l2 T:Addr}{C:Obj}{F:Bool}{k1 k2:Nat}{xs ys:Array Value}{Q:Fin->Shared->Prop}(v:A.handled=none)(D:ZipApart z TI TO i1 i2 l1 l2)
  (hz:iT s.heap z TI TO (rawInt T) (.bool F))(G:s.heap.get? T=some C)(l:IsPair s.heap TI (.ref i1) (.ref i2))
  (h1:s.heap.IsListIter i1 l1 k1)(h2:s.heap.IsListIter i2 l2 k2)(i:s.heap.IsList l1 xs)(m:s.heap.IsList l2 ys)(j:xs[k1]? =none\/ys[k2]? =none)
  (y:∀h' e,(∀c o,c≠z->c≠i1->c≠i2->s.heap.get? c=some o->h'.get? c=some o)->(∃o,h'.get? e=some o/\o.cls= .type "StopIteration")->E (.ref e) {s with heap:=h'}):
  wpAny (model prog w) A (Builtin.«zip.__next__» ⟨[.ref z],[]⟩) Q E s:=by
 show wpAny _ _ (field (.ref z) 2>>=_) _ _ _
 refine aC (iP hz rfl (x:= .bool false) rfl ?_)
 show wpAny _ _ (field (.ref z) 3>>=_) _ _ _
 refine aC (iP hz rfl (x:= .ref TI) rfl ?_)
 refine aC (uI l rfl ?_)
 show wpAny _ _ (Builtin.SmallTypes.ownedTupleIsFree (.ref z)>>=_) _ _ _
 refine aC (nO (MY hz G) (λb s' H=> ?_) λ_ _ e=>e)
 obtain⟨rfl,B,rfl,n,a⟩:=H
 show wpAny _ _ (forIn _ _ _>>=_) _ _ _
 refine aC ?_
 rw[<-Array.forIn_toList]
 simp only[forIn_cons,forIn_nil]
 refine aC (aC (ko ?_))
 show wpAny _ _ (Builtin.SmallTypes.nextOf (.ref i1)>>=_) _ _ _
 cases p:xs[k1]? with
 |none=>
  refine aC (wpAny_nextOf_list_end v (h1.extBut a.extBut D.i1z) (i.extBut a.extBut D.l1z) p λf e d q=> ?_)
  exact y f e (λc o r t _ x=>d _ _ t (a.extBut _ _ r x)) q
 |some x=>
  have I:ys[k2]? =none:=by rcases j with h|h;rw[p] at h;cases h;exact h
  refine aC (yY (h1.extBut a.extBut D.i1z) (i.extBut a.extBut D.l1z) p λf u d=>aX (aX ?_))
  refine aC (aC (ko ?_))
  show wpAny _ _ (Builtin.SmallTypes.nextOf (.ref i2)>>=_) _ _ _
  refine aC (wpAny_nextOf_list_end v ((h2.extBut a.extBut D.i2z).extBut d.extBut D.i12.symm) ((m.extBut a.extBut D.l2z).extBut d.extBut D.l2i1) I λk e g q=> ?_)
  exact y k e (λc o r t J x=>g _ _ J (d.extBut _ _ t (a.extBut _ _ r x))) q
theorem Od{z TI TO i1 i2 l1 l2 T:Addr}{g:Obj}{h:Bool}{k1 k2:Nat}{xs ys:Array Value}{x y:Value}{Q:Option Value->Shared->Prop}(D:ZipApart z TI TO i1 i2 l1 l2)
  (hz:iT s.heap z TI TO (rawInt T) (.bool h))(i:s.heap.get? T=some g)(b:T≠z)(d:IsPair s.heap TI (.ref i1) (.ref i2))
  (h1:s.heap.IsListIter i1 l1 k1)(h2:s.heap.IsListIter i2 l2 k2)(e:s.heap.IsList l1 xs)(f:s.heap.IsList l2 ys)(j:xs[k1]? =some x)(k:ys[k2]? =some y)
  (l:∀h',iT h' z TI TO (rawInt T) (.bool true)->h'.IsListIter i1 l1 (k1+1)->h'.IsListIter i2 l2 (k2+1)->IsPair h' s.heap.objs.size x y->h'.objs.size=s.heap.objs.size+1->
   (∀c o,c≠z->c≠i1->c≠i2->s.heap.get? c=some o->h'.get? c=some o)->Q (some (.ref s.heap.objs.size)) {s with heap:=h'}):
  wpAny (model prog w) A (pyNext (.ref z)) Q E s:=by
 have a:s.TypeIs (.ref z) "zip":=⟨_,hz,rfl⟩
 unfold pyNext
 exact aC (wpAny_attempt (yX (name:=Str.ofString "__next__") a uD
  (wpAny_call_entry uD a F.entry_zip_next
   (Q_ D hz i b d h1 h2 e f j k λh' a1 a2 m n p q=>aX (l h' a1 a2 m n p q)) (F.args_zip_next_1 _))))
theorem Oc{z TI TO i1 i2 l1 l2 T:Addr}{i:Obj}{j:Bool}{k1 k2:Nat}{xs ys:Array Value}{Q:Option Value->Shared->Prop}(k:A.handled=none)(D:ZipApart z TI TO i1 i2 l1 l2)
  (hz:iT s.heap z TI TO (rawInt T) (.bool j))(l:s.heap.get? T=some i)(f:IsPair s.heap TI (.ref i1) (.ref i2))
  (h1:s.heap.IsListIter i1 l1 k1)(h2:s.heap.IsListIter i2 l2 k2)(g:s.heap.IsList l1 xs)(h:s.heap.IsList l2 ys)(a:xs[k1]? =none\/ys[k2]? =none)
  (m:∀h',(∀c o,c≠z->c≠i1->c≠i2->s.heap.get? c=some o->h'.get? c=some o)->Q none {s with heap:=h'}):wpAny (model prog w) A (pyNext (.ref z)) Q E s:=by
 have d:s.TypeIs (.ref z) "zip":=⟨_,hz,rfl⟩
 unfold pyNext
 refine aC (wpAny_attempt (yX (name:=Str.ofString "__next__") d uD
  (wpAny_call_entry uD d F.entry_zip_next (Q9 k D hz l f h1 h2 g h a λh' e n p=> ?_) (F.args_zip_next_1 _))))
 obtain⟨o,q,hc⟩:=p
 refine aC (wpAny_isInstance (T:="StopIteration") (b:=true) ⟨o,q,hc⟩ isSubtype_stop ?_)
 exact aX (m _ n)
structure ZS(z TI TO i1 i2 l1 l2 base:Addr)(xs ys:Array Value)(k:Nat)(h:Heap):Prop where
 zip:(k=0/\IsZip h z TI TO .none)\/(0<k/\∃bb,iT h z TI TO (rawInt base) (.bool bb))
 ti:IsPair h TI (.ref i1) (.ref i2)
 to:∃a b,IsPair h TO a b
 m8:h.IsListIter i1 l1 k
 m_:h.IsListIter i2 l2 k
 gn:h.IsList l1 xs
 iL:h.IsList l2 ys
 sz:h.objs.size=base+k
 old:∀(j:Nat) x y,j<k->xs[j]? =some x->ys[j]? =some y->IsPair h (base+j) x y
structure oF(z TI TO i1 i2 l1 l2 base:Addr):Prop where
 z:z<base
 to:TO<base
 i1:i1<base
 i2:i2<base
theorem ZS.upd{z TI TO i1 i2 l1 l2 base S:Addr}{xs ys:Array Value}{k:Nat}{h h':Heap}(Z:ZS z TI TO i1 i2 l1 l2 base xs ys k h)(c:∀b o,b≠S->h.get? b=some o->h'.get? b=some o)(d:h'.objs.size=h.objs.size)
  (n1:z≠S)(n2:TI≠S)(n3:TO≠S)(n4:i1≠S)(n5:i2≠S)(n6:l1≠S)(n7:l2≠S)(n8:S<base):ZS z TI TO i1 i2 l1 l2 base xs ys k h' where
 zip:=by
  rcases Z.zip with⟨e,q⟩|⟨e,f,q⟩
  .exact .inl ⟨e,c _ _ n1 q⟩
  .exact .inr ⟨e,f,c _ _ n1 q⟩
 ti:=c _ _ n2 Z.ti
 to:=let ⟨a,b,q⟩:=Z.to;⟨a,b,c _ _ n3 q⟩
 m8:=Z.m8.at λo e=>c _ o n4 e
 m_:=Z.m_.at λo e=>c _ o n5 e
 gn:=Z.gn.at λo e=>c _ o n6 e
 iL:=Z.iL.at λo e=>c _ o n7 e
 sz:=d.trans Z.sz
 old:=λj x y g i l=>c _ _ (lQ (dz n8 (mu _ _))) (Z.old j x y g i l)
theorem Rf{z TI TO i1 i2 l1 l2 base:Addr}{xs ys:Array Value}{k:Nat}{x y:Value}{Q:Option Value->Shared->Prop}(D:ZipApart z TI TO i1 i2 l1 l2)(L:oF z TI TO i1 i2 l1 l2 base)
  (Z:ZS z TI TO i1 i2 l1 l2 base xs ys k s.heap)(g:xs[k]? =some x)(h:ys[k]? =some y)
  (M:∀h',ZS z TI TO i1 i2 l1 l2 base xs ys (k+1) h'->(∀c o,c≠z->c≠TO->c≠i1->c≠i2->s.heap.get? c=some o->h'.get? c=some o)->Q (some (.ref (base+k))) {s with heap:=h'}):
  wpAny (model prog w) A (pyNext (.ref z)) Q E s:=by
 obtain⟨a,b,f⟩:=Z.to
 have new:∀h',(∀c o,c≠z->c≠TO->c≠i1->c≠i2->s.heap.get? c=some o->h'.get? c=some o)->IsPair h' s.heap.objs.size x y->∀(j:Nat) i l,j<k+1->xs[j]? =some i->ys[j]? =some l->IsPair h' (base+j) i l:=λh' d O j i l P m n=>by
  by_cases p:j=k
  .subst p
   rw[g] at m;rw[h] at n;cases m;cases n
   rw[<-Z.sz]
   exact O
  .have lo:∀c,c<base->base+j≠c:=λc hc e=>absurd (dz hc (mu base j)) (by rw[e];exact fV _)
   exact d _ _ (lo _ L.z) (lo _ L.to) (lo _ L.i1) (lo _ L.i2) (Z.old j i l (by omega) m n)
 rcases Z.zip with⟨e,q⟩|⟨e,R,q⟩
 .subst e
  refine wpAny_pyNext_zip_item D q Z.ti f Z.m8 Z.m_ Z.gn Z.iL g h λh' a1 a2 t u v B d=> ?_
  have C:s.heap.objs.size=base:=Z.sz
  have r:=M h' ⟨.inr ⟨succ_pos _,false,by rw[C] at a1;exact a1⟩,d _ _ D.TIz D.TITO D.TIi1 D.TIi2 Z.ti,⟨_,_,a2⟩,t,u,Z.gn.at λo e=>d _ o D.l1z D.l1TO D.l1i1 D.l1i2 e,Z.iL.at λo e=>d _ o D.l2z D.l2TO D.l2i1 D.l2i2 e,
   by rw[B,C],new h' d v⟩ d
  rw[C]
  exact r
 .obtain⟨x0,F⟩:∃x0,xs[0]? =some x0:=⟨xs[0]'(by have:=(uV.mp g).1;omega),nU _⟩
  obtain⟨G,H⟩:∃G,ys[0]? =some G:=⟨ys[0]'(by have:=(uV.mp h).1;omega),nU _⟩
  have N:=Z.old 0 x0 G e F H
  rw[Nat.add_zero] at N
  refine Od D q N (lQ L.z) Z.ti Z.m8 Z.m_ Z.gn Z.iL g h λh' a1 t u v B d=> ?_
  have r:=M h' ⟨.inr ⟨succ_pos _,true,a1⟩,d _ _ D.TIz D.TIi1 D.TIi2 Z.ti,⟨_,_,d _ _ D.TOz D.TOi1 D.TOi2 f⟩,t,u,Z.gn.at λo e=>d _ o D.l1z D.l1i1 D.l1i2 e,Z.iL.at λo e=>d _ o D.l2z D.l2i1 D.l2i2 e,
   by rw[B,Z.sz];rfl,new h' (λc o I _ J K e=>d c o I J K e) v⟩ λc o I _ J K e=>d c o I J K e
  rw[Z.sz]
  exact r
theorem Rc{z TI TO i1 i2 l1 l2 base:Addr}{xs ys:Array Value}{k:Nat}{Q:Option Value->Shared->Prop}(j:A.handled=none)(D:ZipApart z TI TO i1 i2 l1 l2)
  (Z:ZS z TI TO i1 i2 l1 l2 base xs ys k s.heap)(d:k=min xs.size ys.size)
  (l:∀h',(∀c o,c≠z->c≠TO->c≠i1->c≠i2->s.heap.get? c=some o->h'.get? c=some o)->Q none {s with heap:=h'}):wpAny (model prog w) A (pyNext (.ref z)) Q E s:=by
 obtain⟨a,b,f⟩:=Z.to
 have m:xs[k]? =none\/ys[k]? =none:=by
  subst d
  rcases Nat.le_total xs.size ys.size with h|h
  .exact .inl (by rw[Nat.min_eq_left h];exact Array.getElem?_eq_none (aI _))
  .exact .inr (by rw[Nat.min_eq_right h];exact Array.getElem?_eq_none (aI _))
 rcases Z.zip with⟨e,q⟩|⟨e,v,q⟩
 .exact wpAny_pyNext_zip_end j D q Z.ti f Z.m8 Z.m_ Z.gn Z.iL m l
 .have g:0<xs.size:=by omega
  have i:0<ys.size:=by omega
  have n:=Z.old 0 _ _ e (nU g) (nU i)
  rw[Nat.add_zero] at n
  exact Oc j D q n Z.ti Z.m8 Z.m_ Z.gn Z.iL m λh' p=>l h' λc o r _ t u e=>p c o r t u e
def ir(base k:Nat):Array Value:=((range k).map λj=>Value.ref (base+j)).toArray
theorem Om(base k:Nat):ir base (k+1)=(ir base k).push (.ref (base+k)):=by
 unfold ir;rw[List.range_succ,cX];simp
theorem DY(base k:Nat):(ir base k).size=k:=by simp[ir]
end
namespace F
theorem Rb:typeLookup (.type "zip") "__len__"=pure none:=by rw[uG,uQ];kernel_rfl
theorem Ra:typeLookup (.type "zip") "__length_hint__"=pure none:=by rw[uG,uQ];kernel_rfl
end F
section
variable{prog:Program}{w:World}{A:Around}{s:Shared}{R:Result->Shared->Prop}{z TI TO i1 i2 l1 l2 base S:Addr}{xs ys:Array Value}
structure qN(z TI TO i1 i2 l1 l2 base S:Addr):Prop where
 n1:z≠S
 n2:TI≠S
 n3:TO≠S
 n4:i1≠S
 n5:i2≠S
 n6:l1≠S
 n7:l2≠S
 n8:S<base
theorem IW(I:A.handled=none)(D:ZipApart z TI TO i1 i2 l1 l2)(L:oF z TI TO i1 i2 l1 l2 base)(O:qN z TI TO i1 i2 l1 l2 base S)(V:min xs.size ys.size<=sizeLine)(res:Value):
  ∀(m k:Nat) (s:Shared) (c:Nat),min xs.size ys.size - k=m->k<=min xs.size ys.size->ZS z TI TO i1 i2 l1 l2 base xs ys k s.heap->s.heap.get? S=some {cls:=.type "list",dict:=none,data:=.seq (ir base k) c,slots:= #[]}->
  (∀h' c',(∀(j:Nat) x y,xs[j]?=some x->ys[j]?=some y->IsPair h' (base+j) x y)->h'.get? S=some {cls:=.type "list",dict:=none,data:=.seq (ir base (min xs.size ys.size)) c',slots:= #[]}->
   (∀b o,b≠S->b≠z->b≠TO->b≠i1->b≠i2->s.heap.get? b=some o->h'.get? b=some o)->R (.ok (.ret res)) {s with heap:=h'})->
  codeAny (model prog w) A (.builtin "list.extend.loop" ⟨[.ref S,.ref z,res],[]⟩) R s:=by
 have lo:∀(c j:Nat),c<base->base+j≠c:=λc j hc e=>absurd (dz hc (mu base j)) (by rw[e];exact fV _);intro m;induction m with
 |zero=>
  intro k s c J K i r t;have f:k=min xs.size ys.size:=by omega
  refine uR PySem.F.entry_extend_loop ?_;rw[uT uE _];show wpAny _ A.in1 (pyNext (.ref z)>>=_) _ _ s;refine aC (Rc (A:=A.in1) I D i f λh' a=>?_);refine aX (t h' c (λj x y G H=>?_) ?_ λb o u l n p q e=>a b o l n p q e)
  .have M:j<k:=by
    have W:=(uV.mp G).1;have X:=(uV.mp H).1;omega
   exact a _ _ (lo _ _ L.z) (lo _ _ L.to) (lo _ _ L.i1) (lo _ _ L.i2) (i.old j x y M G H)
  .rw[<-f]
   exact a _ _ O.n1.symm O.n3.symm O.n4.symm O.n5.symm r
 |succ m N=>
  intro k s c J K i r t;have v:k<min xs.size ys.size:=by omega
  have P:xs[k]?=some (xs[k]'(by omega)):=nU _;have Q:ys[k]?=some (ys[k]'(by omega)):=nU _;refine uR PySem.F.entry_extend_loop ?_;rw[uT uE _];show wpAny _ A.in1 (pyNext (.ref z)>>=_) _ _ s;refine aC (Rf (A:=A.in1) D L i P Q λh' B a=>?_);have g:=a _ _ O.n1.symm O.n3.symm O.n4.symm O.n5.symm r;show wpAny _ A.in1 (updateSeq S (·.push (.ref (base+k)))>>=_) _ _ _;refine aC ?_;have h:∀b o,b≠S->h'.get? b=some o->(h'.update S (Obj.mapSeq (·.push (.ref (base+k))))).get? b=some o:=λb o T e=>(qw _ _ (Ne.symm T)).trans e;have C:=uU (Obj.mapSeq (·.push (.ref (base+k)))) g rfl;have d:∃n',(h'.update S (Obj.mapSeq (·.push (.ref (base+k))))).get? S=some {cls:=.type "list",dict:=none,data:=.seq ((ir base k).push (.ref (base+k))) n',slots:= #[]}:=⟨_,C⟩;obtain⟨n',d⟩:=d;rw[<-Om] at d;refine uK g rfl (aX ⟨ql uE _,N (k+1) _ n' (by omega) v (B.upd h (size_update ..) O.n1 O.n2 O.n3 O.n4 O.n5 O.n6 O.n7 O.n8) d λE c' a1 a2 U=>?_⟩)
   (by rw[DY];omega) (by show((ir base k).push _).size<=sizeLine+1;rw[Array.size_push,DY];omega)
  .exact t E c' a1 a2 λb o u l n p q e=>U b o u l n p q (h b o u (a b o l n p q e))
theorem IV(n:A.handled=none)(D:ZipApart z TI TO i1 i2 l1 l2)(L:oF z TI TO i1 i2 l1 l2 base)(O:qN z TI TO i1 i2 l1 l2 base S)(p:min xs.size ys.size<=sizeLine)(res:Value)(c₀:Nat)
  (i:ZS z TI TO i1 i2 l1 l2 base xs ys 0 s.heap)(k:s.heap.get? S=some {cls:= .type "list",data:= .seq #[] c₀})
  (r:∀h' c',(∀(j:Nat) x y,xs[j]? =some x->ys[j]? =some y->IsPair h' (base+j) x y)->h'.get? S=some {cls:= .type "list",dict:=none,data:= .seq (ir base (min xs.size ys.size)) c',slots:= #[]}->
   (∀b o,b≠S->b≠z->b≠TO->b≠i1->b≠i2->s.heap.get? b=some o->h'.get? b=some o)->R (.ok (.ret res)) {s with heap:=h'}):
  wpAny (model prog w) A.in1 (Builtin.List.listExtendWith (.ref S) (.ref z) res)
   (λfin s'=>match fin with| .done f=>R (.ok f) s'| .again c'=>c'.quiet=true/\codeAny (model prog w) A c' R s') (λe s'=>R (.error e) s') s:=by
 have d:IsZip s.heap z TI TO .none:=by
  rcases i.zip with⟨_,q⟩|⟨e,_⟩
  .exact q
  .exact absurd e (fV _)
 have h:s.TypeIs (.ref z) "zip":=⟨_,d,rfl⟩
 unfold Builtin.List.listExtendWith
 refine aC (qo h ?_)
 have h1:Builtin.List.listSameRef (.ref S) (.ref z)=false:=by simp[Builtin.List.listSameRef,O.n1.symm]
 have h2:(Value.type "zip" ==Value.type "list")=false:=by decide
 have t:(Value.type "zip" ==Value.type "tuple")=false:=by decide
 simp only[h1,h2,t,Bool.or_false,Bool.false_eq_true,if_false]
 refine aC (wpAny_pyIter_zip d ?_)
 refine aC (ko ?_)
 unfold Builtin.List.listLengthHint
 refine aC (wpAny_specialOf h F.Rb ?_)
 show wpAny _ A.in1 (specialOf (Value.ref z) (Str.ofString "__length_hint__")>>=_) _ _ _
 refine aC (wpAny_specialOf h F.Ra ?_)
 refine aX ?_
 show wpAny _ A.in1 (rule "list.extend.makes-room">>=λ_=>Builtin.List.listTouch (.ref S)>>=λ_=>
  again (.builtin "list.extend.loop" ⟨[.ref S,.ref z,res],[]⟩)) _ _ _
 refine aC (wpAny_rule ?_)
 refine aC ?_
 show wpAny _ A.in1 (updateSeq S (·.push .none)>>=λ_=>updateSeq S (·.pop)) _ _ _
 refine aC (uK k rfl ?_)
 have a:=uU (Obj.mapSeq (·.push Value.none)) k rfl
 refine uK (hz:=by seq_fits) a rfl ?_
 have c:=uU (Obj.mapSeq (·.pop)) a rfl
 have g:∀b o,b≠S->s.heap.get? b=some o->((s.heap.update S (Obj.mapSeq (·.push Value.none))).update S (Obj.mapSeq (·.pop))).get? b=some o:=
  λb o l e=>(qw _ _ (Ne.symm l)).trans ((qw _ _ (Ne.symm l)).trans e)
 refine aX ⟨ql uE _,IW n D L O p res _ 0 _ _ rfl (cV _) (i.upd g (by rw[size_update,size_update]) O.n1 O.n2 O.n3 O.n4 O.n5 O.n6 O.n7 O.n8) c λh' c' a1 a2 u=> ?_⟩
 exact r h' c' a1 a2 λb o m v B C E e=>u b o m v B C E (g b o m e)
theorem LB(h:A.handled=none)(D:ZipApart z TI TO i1 i2 l1 l2)(L:oF z TI TO i1 i2 l1 l2 base)(O:qN z TI TO i1 i2 l1 l2 base S)(i:min xs.size ys.size<=sizeLine)
  (k:ZS z TI TO i1 i2 l1 l2 base xs ys 0 s.heap)(d:s.heap.get? S=some {cls:= .type "list",data:= .seq #[]})
  (l:∀h' c',(∀(j:Nat) x y,xs[j]? =some x->ys[j]? =some y->IsPair h' (base+j) x y)->h'.get? S=some {cls:= .type "list",dict:=none,data:= .seq (ir base (min xs.size ys.size)) c',slots:= #[]}->
   (∀b o,b≠S->b≠z->b≠TO->b≠i1->b≠i2->s.heap.get? b=some o->h'.get? b=some o)->R (.ok (.ret .none)) {s with heap:=h'}):
  wpAny (model prog w) A.in1 (Builtin.«list.__init__» ⟨[.ref S,.ref z],[]⟩)
   (λfin s'=>match fin with| .done f=>R (.ok f) s'| .again c'=>c'.quiet=true/\codeAny (model prog w) A c' R s') (λe s'=>R (.error e) s') s:=by
 show wpAny _ A.in1 (do let old <-Builtin.List.listItems (.ref S);Builtin.List.listUpdate (.ref S) (λ_=> #[]);letGo old.toList.reverse;Builtin.List.listExtendWith (.ref S) (.ref z) .none) _ _ s
 refine aC ?_
 unfold Builtin.List.listItems
 refine aC (uI d rfl (aX ?_))
 show wpAny _ A.in1 (updateSeq S (λ_=> #[])>>=λ_=>letGo (#[]:Array Value).toList.reverse>>=λ_=>Builtin.List.listExtendWith (.ref S) (.ref z) .none) _ _ s
 refine aC (uK d rfl ?_)
 have a:=uU (Obj.mapSeq (λ_=>(#[]:Array Value))) d rfl
 have c:∀b o,b≠S->s.heap.get? b=some o->(s.heap.update S (Obj.mapSeq (λ_=>(#[]:Array Value)))).get? b=some o:=
  λb o m e=>(qw _ _ (Ne.symm m)).trans e
 refine aC (wpAny_letGo ?_)
 refine IV h D L O i .none _ (k.upd c (size_update ..) O.n1 O.n2 O.n3 O.n4 O.n5 O.n6 O.n7 O.n8) a λh' c' a1 a2 n=> ?_
 exact l h' c' a1 a2 λb o g p q r t e=>n b o g p q r t (c b o g e)
end
section
variable{prog:Program}{w:World}{A:Around}{E:bw}{s:Shared}
theorem LC{l1 l2:Addr}{xs ys:Array Value}{Q:bw}(q:A.handled=none)(d:s.heap.IsList l1 xs)(f:s.heap.IsList l2 ys)(r:min xs.size ys.size<=sizeLine)
  (t:∀h' c',(∀(j:Nat) x y,xs[j]?=some x->ys[j]?=some y->IsPair h' (s.heap.objs.size+6+j) x y)->
   h'.get? (s.heap.objs.size+5)=some {cls:=.type "list",dict:=none,data:=.seq (ir (s.heap.objs.size+6) (min xs.size ys.size)) c',slots:= #[]}->
   (∀b o,s.heap.get? b=some o->h'.get? b=some o)->Q (.ref (s.heap.objs.size+5)) {s with heap:=h'}):
  wpAny (model prog w) A (call (.type "zip") [.ref l1,.ref l2]) (λz a=>wpAny (model prog w) A (call (.type "list") [z]) Q E a) E s:=by
 have u: @LT.lt Nat _ l1 s.heap.objs.size:=by obtain⟨_,e,_⟩:=d;exact bh e
 have v: @LT.lt Nat _ l2 s.heap.objs.size:=by obtain⟨_,e,_⟩:=f;exact bh e
 refine call_zip_2 d f λc hz h i k l hsz m=>?_;have D:ZipApart (s.heap.objs.size+4) (s.heap.objs.size+2) (s.heap.objs.size+3) s.heap.objs.size (s.heap.objs.size+1) l1 l2:=by
  constructor<;>first|(show(_:Nat)<(_:Nat);omega)|(intro e;have n: @Eq Nat _ _:=e;omega)
 have L:oF (s.heap.objs.size+4) (s.heap.objs.size+2) (s.heap.objs.size+3) s.heap.objs.size (s.heap.objs.size+1) l1 l2 (s.heap.objs.size+6):=by
  constructor<;>first|(show(_:Nat)<(_:Nat);omega)|(intro e;have n: @Eq Nat _ _:=e;omega)
 have O:qN (s.heap.objs.size+4) (s.heap.objs.size+2) (s.heap.objs.size+3) s.heap.objs.size (s.heap.objs.size+1) l1 l2 (s.heap.objs.size+6) (s.heap.objs.size+5):=by
  constructor<;>first|(show(_:Nat)<(_:Nat);omega)|(intro e;have n: @Eq Nat _ _:=e;omega)
 refine callType_codes (Q₁:=λobj a=>obj=.ref (s.heap.objs.size+5)/\a={s with heap:=c.push {cls:=.type "list",data:=.seq #[]}}) PySem.F.called_list (PySem.F.typeCall_list_1 _) PySem.F.entry_list_init
  (code_list_new _ ⟨by show Value.ref c.objs.size=_;rw[hsz],rfl⟩) λobj a g=>?_
 obtain⟨rfl,rfl⟩:=g;have p:(c.push {cls:=.type "list",data:=.seq #[]}).get? (s.heap.objs.size+5)=some {cls:=.type "list",data:=.seq #[]}:=by rw[<-hsz];exact eT _ rfl
 have B:ZS (s.heap.objs.size+4) (s.heap.objs.size+2) (s.heap.objs.size+3) s.heap.objs.size (s.heap.objs.size+1) l1 l2 (s.heap.objs.size+6) xs ys 0 (c.push {cls:=.type "list",data:=.seq #[]}):=
  ⟨.inl ⟨rfl,bP _ hz⟩,bP _ h,⟨_,_,bP _ i⟩,k.at λo e=>bP _ e,l.at λo e=>bP _ e,
   d.at λo e=>bP _ (m _ o e),f.at λo e=>bP _ (m _ o e),by rw[size_push,hsz],λj x y C=>absurd C (Nat.not_lt_zero _)⟩
 refine⟨⟨_,p,rfl⟩,PySem.F.args_list_init_2 _ _,LB (A:=A.in1) q D L O r B p λh' c' a1 a2 G=>⟨rfl,t h' c' a1 a2 λb o e=>?_⟩⟩;have H: @LT.lt Nat _ b s.heap.objs.size:=bh e;have ne:∀j:Nat,b≠s.heap.objs.size+j:=λj z=>by have I: @Eq Nat b (s.heap.objs.size+j):=z;omega
 exact G b o (ne 5) (ne 4) (ne 3) (ne 0) (ne 1) (bP _ (m b o e))
end
end ZL
end PySem
section
open PySem PySem.Spec PyProof.Rows
namespace L2
def cF:List (Str×NameKind)->List Str
 |[]=>[]
 |(n,k)::r=>if (k==NameKind.free)=true then n::cF r else cF r
def e9(env:Env):List (Str×NameKind)->List (Str×Addr)->List (Str×Addr)
 |[],acc=>acc
 |(n,k)::r,acc=>if (k==NameKind.free)=true then e9 env r ((n,(env.cells.lookup n).getD 0)::acc) else e9 env r acc
theorem vO{env:Env}{f:(Str×NameKind)->List (Str×Addr)->Sem (ForInStep (List (Str×Addr)))}
  (h1:∀n k cs c,(k==NameKind.free)=true->env.cells.lookup n=some c->f (n,k) cs=pure (.yield ((n,c)::cs)))(h2:∀n k cs,(k==NameKind.free)=false->f (n,k) cs=pure (.yield cs)):
  ∀(names:List (Str×NameKind)) (acc:List (Str×Addr)),(∀n∈cF names,∃c,env.cells.lookup n=some c)->forIn names acc f=pure (e9 env names acc)
 |[],acc,_=>by rw[forIn_nil];rfl
 |(n,k)::r,acc,h=>by
  rw[forIn_cons];cases e:(k==NameKind.free) with
  |true=>
   have b:cF ((n,k)::r)=n::cF r:=by show(if (k==NameKind.free)=true then n::cF r else cF r)=_;rw[aA e]
   obtain⟨c,hc⟩:=h n (by rw[b];exact cR);rw[h1 n k acc c e hc,pure_bind];show forIn r ((n,c)::acc) f=_;rw[vO h1 h2 r _ λm d=>h m (by rw[b];exact cj _ d)];have a:e9 env ((n,k)::r) acc=e9 env r ((n,(env.cells.lookup n).getD 0)::acc):=by
    show(if (k==NameKind.free)=true then _ else _)=_;rw[aA e]
   rw[a,hc];rfl
  |false=>
   have b:cF ((n,k)::r)=cF r:=by show(if (k==NameKind.free)=true then n::cF r else cF r)=_;rw[ay (by rw[e];decide)]
   rw[h2 n k acc e,pure_bind];show forIn r acc f=_;rw[vO h1 h2 r _ λm d=>h m (by rw[b];exact d)];have a:e9 env ((n,k)::r) acc=e9 env r acc:=by
    show(if (k==NameKind.free)=true then _ else _)=_;rw[ay (by rw[e];decide)]
   rw[a]
theorem Ay{scope:Scope}{env:Env}(h:∀n∈cF scope.names,∃c,env.cells.lookup n=some c):closureFor scope env=pure (e9 env scope.names []):=by
 unfold closureFor;show(forIn scope.names [] _>>=_)=_;rw[vO (env:=env) (λn k cs c a hc=>?_) (λn k cs a=>?_) scope.names [] h]
 .exact pure_bind _ _
 .dsimp only
  rw[aA a];unfold cellOf;rw[hc];rfl
 .dsimp only
  rw[ay (by rw[a];decide)]
theorem oM{env:Env}{x:Str}:∀(names:List (Str×NameKind)) (acc:List (Str×Addr)),(∀n∈cF names,∃c,env.cells.lookup n=some c)->
  (e9 env names acc).lookup x=if x∈cF names then env.cells.lookup x else acc.lookup x
 |[],acc,_=>by simp[e9,cF]
 |(n,k)::r,acc,h=>by
  cases e:(k==NameKind.free) with
  |true=>
   have b:cF ((n,k)::r)=n::cF r:=by show(if (k==NameKind.free)=true then n::cF r else cF r)=_;rw[aA e]
   obtain⟨c,hc⟩:=h n (by rw[b];exact cR);have a:e9 env ((n,k)::r) acc=e9 env r ((n,(env.cells.lookup n).getD 0)::acc):=by
    show(if (k==NameKind.free)=true then _ else _)=_;rw[aA e]
   rw[a,b,oM r _ λm f=>h m (by rw[b];exact cj _ f)];by_cases d:x∈cF r
   .rw[aA d,aA (cj _ d)]
   .rw[ay d]
    by_cases g:x=n
    .subst g
     rw[aA cR,hc];simp
    .rw[ay (by intro z;rcases cu.mp z with z|z;exact g z;exact d z)]
     have i:(x==n)=false:=by simpa using g
     rw[gA,i]
  |false=>
   have b:cF ((n,k)::r)=cF r:=by show(if (k==NameKind.free)=true then n::cF r else cF r)=_;rw[ay (by rw[e];decide)]
   have a:e9 env ((n,k)::r) acc=e9 env r acc:=by
    show(if (k==NameKind.free)=true then _ else _)=_;rw[ay (by rw[e];decide)]
   rw[a,b,oM r _ λm f=>h m (by rw[b];exact f)]
structure fK(X:Cx)(scope:Scope)(frees:List Str):Prop where
 kind:scope.kind= .function
 C6:∀y∈scope.names,y.2≠ .cell
 locs:∀y∈scope.names,y.2= .local->scope.names.lookup y.1=some .local
 sub:∀n∈cF scope.names,n∈frees
 free:∀n∈frees,scope.names.lookup n=some .free
 kinds:(frees.all λn=>X.env.kindOf n==some .cell||X.env.kindOf n==some .free)=true
theorem fK.frees{X:Cx}{scope:Scope}{fr:List Str}(S:fK X scope fr):∀n∈cF scope.names,X.env.kindOf n=some .cell\/X.env.kindOf n=some .free:=λn a=>by
 have h:=lZ.mp S.kinds n (S.sub n a);rcases Bool.or_eq_true _ _▸h with h|h
 .exact .inl (eq_of_beq h)
 .exact .inr (eq_of_beq h)
theorem su{x:Str}:∀{names:List (Str×NameKind)},(x,NameKind.free)∈names->x∈cF names
 |(n,k)::r,h=>by
  unfold cF;rcases cu.mp h with e|e
  .injection e with a b
   subst a b;rw[aA (by rfl)];exact cR
  .split
   .exact cj _ (su e)
   .exact su e
theorem D0{env:Env}{x:Str}:∀{names:List (Str×NameKind)} {k:NameKind},(names.map λ(n,k)=>if (k==NameKind.free&&env.scope.kind== .function&&env.kindOf n==some .cell) then (n,NameKind.cell) else (n,k)).lookup x=some k->
  ∃k0,names.lookup x=some k0/\(k=k0\/(k0=.free/\k=.cell))
 |[],k,h=>by simp at h
 |(n,k1)::r,k,h=>by
  rw[cB] at h;by_cases b:(x==n)=true
  .by_cases hc:(k1==NameKind.free&&env.scope.kind== .function&&env.kindOf n==some .cell)=true
   .dsimp only at h
    rw[aA hc,gA,b] at h;have e:k=.cell:=by injection h with h;exact h.symm
    have c:k1=.free:=by
     have:=(jK _ _▸(jK _ _▸hc).1).1;exact eq_of_beq this
    exact⟨k1,by rw[gA,b],.inr ⟨c,e⟩⟩
   .dsimp only at h
    rw[ay hc,gA,b] at h;injection h with h;exact⟨k1,by rw[gA,b],.inl h.symm⟩
  .have a:(x==n)=false:=by simpa using b
   have h':(List.map (λ(n,k)=>if (k==NameKind.free&&env.scope.kind== .function&&env.kindOf n==some .cell) then (n,NameKind.cell) else (n,k)) r).lookup x=some k:=by
    by_cases hc:(k1==NameKind.free&&env.scope.kind== .function&&env.kindOf n==some .cell)=true
    .dsimp only at h;rw[aA hc,gA,a] at h;exact h
    .dsimp only at h;rw[ay hc,gA,a] at h;exact h
   obtain⟨k0,c,d⟩:=D0 h';exact⟨k0,by rw[gA,a];exact c,d⟩
theorem DZ{env:Env}{x:Str}:∀{names:List (Str×NameKind)},names.lookup x=some .free->
  (names.map λ(n,k)=>if (k==NameKind.free&&env.scope.kind== .function&&env.kindOf n==some .cell) then (n,NameKind.cell) else (n,k)).lookup x=some .cell\/
  (names.map λ(n,k)=>if (k==NameKind.free&&env.scope.kind== .function&&env.kindOf n==some .cell) then (n,NameKind.cell) else (n,k)).lookup x=some .free
 |[],h=>by simp at h
 |(n,k1)::r,h=>by
  rw[cB]
  by_cases b:(x==n)=true
  .rw[gA,b] at h
   injection h with h
   subst h
   by_cases hc:(NameKind.free==NameKind.free&&env.scope.kind== .function&&env.kindOf n==some .cell)=true
   .left;dsimp only;rw[aA hc,gA,b]
   .right;dsimp only;rw[ay hc,gA,b]
  .have a:(x==n)=false:=by simpa using b
   rw[gA,a] at h
   have c:=DZ (env:=env) h
   by_cases hc:(k1==NameKind.free&&env.scope.kind== .function&&env.kindOf n==some .cell)=true
   .dsimp only;rw[aA hc,gA,a];exact c
   .dsimp only;rw[ay hc,gA,a];exact c
structure CP where
 C:Addr
 s:Shared
 H:Hp
 pins:aQ
 fp:List Addr
def bJ(X:Cx)(NC:List Str)(scope:Scope)(c:CP):Cx where
 prog:=X.prog
 w:=X.w
 K:=X.K
 mg:=X.mg
 base:=X.base
 A:=X.A
 N:=NC
 s₀:=c.s
 H₀:=c.H
 env:=compEnvC scope (e9 X.env scope.names []) c.C X.env
 outer:=X.stack
 stack:=X.stack
 ex:=c.fp
 fn:=λ_=>false
 calm:=true
 pn:=X.pn++c.pins
 xe:=λ_ _=>False
section
variable{X:Cx}{scope:Scope}{frees:List Str}{NC:List Str}{pins:aQ}{σ nX:St}{H H':Hp}{s s':Shared}{fp:List Addr}{C:Addr}
theorem fK.has(S:fK X scope frees)(ok:X.Ok):∀n∈cF scope.names,∃c,X.env.cells.lookup n=some c:=λn a=>ok.has n (S.frees n a)
theorem fK.cells(S:fK X scope frees)(ok:X.Ok){x:Str}{c:Addr}(h:(e9 X.env scope.names []).lookup x=some c):x∈cF scope.names/\X.env.cells.lookup x=some c:=by
 rw[oM scope.names [] (S.has ok)] at h;by_cases a:x∈cF scope.names
 .rw[aA a] at h;exact⟨a,h⟩
 .rw[ay a] at h;simp at h
theorem Hw(S:fK X scope frees)(hc:X.calm=true)(I:Inv X pins σ H s)(f:∀b∈fp,fX X pins H b/\b<s.heap.objs.size)(m:C=s.heap.objs.size):(bJ X NC scope ⟨C,s,H,pins,fp⟩).Ok where
 mod:=I.ok.mod
 kind:=S.kind
 glob:=I.ok.glob
 blt:=I.ok.blt
 above:=by show s.heap.objs.size<=C;rw[m];exact aI _
 inj:=λx y c h1 h2=>I.ok.inj x y c (S.cells I.ok h1).2 (S.cells I.ok h2).2
 has:=λx p=>by
  have i:∃k,(relabel scope X.env).names.lookup x=some k/\(k= .cell\/k= .free):=by
   rcases p with h|h
   .exact⟨_,h,.inl rfl⟩
   .exact⟨_,h,.inr rfl⟩
  obtain⟨k,h,hk⟩:=i
  obtain⟨k0,q,d⟩:=D0 h
  have n:=lX q
  have j:k0= .free:=by
   rcases d with d|⟨d,_⟩
   .rcases hk with hk|hk
    .exact absurd (d▸hk:k0= .cell) (S.C6 _ n)
    .exact d▸hk
   .exact d
  subst j
  have g:=su n
  obtain⟨c,l⟩:=S.has I.ok x g
  exact⟨c,by show(e9 X.env scope.names []).lookup x=some c;rw[oM scope.names [] (S.has I.ok),aA g];exact l⟩
 qU:=λx c h=>nomatch h
 hd:=λ_=>I.ok.hd hc
 frames:=I.ok.frames
 stk:= .inl rfl
 IT:=λb a=>⟨λz=>by have:=(f b a).2;rw[z] at this;exact absurd (m▸this) (fV _),λx c h=>(f b a).1.2.2.2.2.1 x c (S.cells I.ok h).2⟩
 bs:=I.bs
 kI:=dU I.ok.kI I.sz
 sF:=λb o e a=>by
  rcases (f b a).1.2.2.2.1 with z|z
  .exact I.ok.sF b o e z
  .exact absurd (dz (bh e) (dU I.ok.kI z)) (fV _)
 wz:=λb a z=>by
  rcases cu.mp (I.nE b z) with e|e
  .exact(f b a).1.2.1 e
  .exact(f b a).1.2.2.1 e
 jb:=I.stack
 mX:=I.yD
def stC(own:List Str)(ix:List Nat)(σ:St):St:=own.map (λ_=>none)++ix.map λi=>(σ[i]?).join
theorem PR{own frees:List Str}{ix:List Nat}{σ:St}{b:List Str}(c:ix.map (λi=>b[i]?)=frees.map some){j:Nat}{x:Str}{v:V}(h1:(own++frees)[j]?=some x)(h2:(stC own ix σ)[j]?=some (some v)):
  x∈frees/\∃i:Nat,b[i]?=some x/\σ[i]?=some (some v):=by
 have hl:ix.length=frees.length:=by have:=bV List.length c;simpa using this
 unfold stC at h2;by_cases d:j<own.length
 .rw[gz (by simpa using d),bH] at h2
  cases e:own[j]? with
  |none=>rw[e] at h2;simp at h2
  |some o=>rw[e] at h2;simp at h2
 .rw[mh (by simpa using d),bH,aR] at h2
  rw[mh (by omega)] at h1;have a:(ix.map (λi=>b[i]?))[j - own.length]?=(frees.map some)[j - own.length]? :=by rw[c]
  rw[bH,bH,h1] at a;cases e:ix[j - own.length]? with
  |none=>rw[e] at h2;simp at h2
  |some i=>
   rw[e] at h2 a;simp only[Option.map_some,Option.some.injEq] at h2 a;refine⟨dw h1,i,a,?_⟩;cases q:σ[i]? with
   |none=>rw[q] at h2;simp at h2
   |some o=>rw[q] at h2;simp at h2;rw[h2]
theorem PU{own frees:List Str}{ix:List Nat}{σ:St}{a:List Str}(b:ix.map (λi=>a[i]?)=frees.map some):(stC own ix σ).length=(own++frees).length:=by
 have hl:ix.length=frees.length:=by have:=bV List.length b;simpa using this
 unfold stC;simp[hl]
theorem Hv{own:List Str}{ix:List Nat}{a:Heap}{G:Nat}(S:fK X scope frees)(hc:X.calm=true)(I:Inv X pins σ H s)(J:∀b∈fp,fX X pins H b/\b<s.heap.objs.size)(w:C=s.heap.objs.size)
  (E:ix.map (λi=>X.N[i]?)=frees.map some)(y:∃m,a.Ns C m)(g:∀b o,s.heap.get? b=some o->a.get? b=some o):
  Inv (bJ X (own++frees) scope ⟨C,s,H,pins,fp⟩) [] (stC own ix σ) H {s with heap:=a,toks:=G}:=by
 obtain⟨m,K⟩:=y;refine⟨Hw S hc I J w,rfl,I.bare,Un.kept g,⟨m,K,λj x v h1 h2 U=>?_⟩,λx c h=>?_,?_,λx c h=>?_,λp L=>?_,I.hok.kept g,PU E⟩
 .obtain⟨M,i,O,P⟩:=PR E h1 h2
  have f:=S.free x M;have k:=su (lX f);have t:=S.frees x k;obtain⟨m0,_,hl⟩:=I.loc;have A:mH X.env.scope x:=by rcases t with z|z;exact .inr (.inl z);exact .inr (.inr z)
  obtain⟨u,r,l⟩:=hl i x v O P A;refine⟨u,r,?_⟩;rcases l with⟨F,_⟩|⟨_,c,Q,R⟩
  .rcases t with z|z
   .rw[F] at z;cases z
   .rw[F] at z;cases z
  .refine .inr ⟨DZ (env:=X.env) f,c,?_,?_⟩
   .show(e9 X.env scope.names []).lookup x=some c
    rw[oM scope.names [] (S.has I.ok),aA k];exact Q
   .obtain⟨o,B,hd⟩:=R
    exact⟨o,g _ _ B,hd⟩
 .obtain⟨_,e⟩:=S.cells I.ok h
  obtain⟨v,o,B,hd⟩:=I.cell x c e;exact⟨v,o,g _ _ B,hd⟩
 .show H C=none
  rw[w];exact I.hok.fresh (aI _)
 .exact I.ja x c (S.cells I.ok h).2
 .have D:p∈X.pn++pins:=by
   have:p∈(X.pn++pins)++[]:=L;rwa [kr] at this
  obtain⟨e,n,ne,T,d⟩:=I.pin p D;refine⟨g _ _ e,n,?_,λz=>?_,d⟩
  .show p.1≠C
   rw[w];exact cU (bh e)
  .rcases cu.mp (I.nE p.1 z) with q|q
   .exact ne q
   .exact T q
theorem Ht{NC:List Str}(S:fK X scope frees)(I:Inv X pins σ H s)(d:∀b∈fp,fX X pins H b/\b<s.heap.objs.size)(e:C=s.heap.objs.size){b:Addr}(a:b∈fp)(f:H' b=none):fX (bJ X NC scope ⟨C,s,H,pins,fp⟩) [] H' b:=by
 refine⟨f,?_,λz=>?_,.inl a,λx c h=>(d b a).1.2.2.2.2.1 x c (S.cells I.ok h).2,λp g=>(d b a).1.2.2.2.2.2 p ?_⟩
 .show b≠C
  rw[e];exact cU (d b a).2
 .rcases cu.mp (I.nE b z) with q|q
  .exact(d b a).1.2.1 q
  .exact(d b a).1.2.2.1 q
 .have:p∈(X.pn++pins)++[]:=g
  rwa [kr] at this
theorem Hs{NC:List Str}(I:Inv X pins σ H s)(a:∀b∈fp,fX X pins H b/\b<s.heap.objs.size)(J:Inv (bJ X NC scope ⟨C,s,H,pins,fp⟩) [] nX H' s'):Inv X pins σ H' s':=
 I.G1 J.os J.base J.hok J.bare λb c=>⟨(a b c).1.2.2.2.1,(a b c).1.2.1,(a b c).1.2.2.2.2.1,(a b c).1.2.2.2.2.2⟩
theorem Hu{h':Heap}(I:Inv X pins σ H s)(a:H C=none)(h1:C≠X.env.locals)(h2:X.s₀.heap.objs.size<=C)(d:∀x c,X.env.cells.lookup x=some c->c≠C)(f:∀p∈X.pn++pins,p.1≠C)(g:SameBut C s.heap h'):
 Inv X pins σ H {s with heap:=h'}:=I.turned (t':=s.toks) (λb o h e=>(g.2 b h).trans e) a h1 (.inr h2) d f
end
inductive fY:St->St->Prop
 |nil:fY [] []
 |own {o:Option V} {a b:St}:fY a b->fY (none::a) (o::b)
 |keep {o:Option V} {a b:St}:fY a b->fY (o::a) (o::b)
theorem fY.len:∀{a b:St},fY a b->b.length=a.length
 |_,_,.nil=>rfl
 |_,_,.own h=>bV (·+1) h.len
 |_,_,.keep h=>bV (·+1) h.len
theorem fY.get:∀{a b:St},fY a b->∀(i:Nat) v,a[i]?=some (some v)->b[i]?=some (some v)
 |_,_,.nil,i,v,e=>by simp at e
 |_,_,.own h,0,v,e=>by simp at e
 |_,_,.own h,i+1,v,e=>by
  rw[zb] at e ⊢;exact h.get i v e
 |_,_,.keep h,0,v,e=>by simpa using e
 |_,_,.keep h,i+1,v,e=>by
  rw[zb] at e ⊢;exact h.get i v e
theorem fY.refl:∀a:St,fY a a
 |[]=>.nil
 |_::r=>.keep (fY.refl r)
inductive gU(X:Cx):List Expr->TT->Prop
 |nil:gU X [] (λ_ H Q=>Q true H)
 |one {c:Expr} {t:TT}:PT X c t->gU X [c] t
theorem gU.run{X:Cx}{ifs:List Expr}{t:TT}(h:gU X ifs t){pins:aQ}{s:Shared}{σ:St}{H:Hp}{Q:Bool->Hp->Prop}(I:Inv X pins σ H s)(a:t σ H Q):
  wpAny (model X.prog X.w) X.A (forIn ifs true λc r=>if r=true then do let ok <-isTrue c X.env (eval c X.env);pure (ForInStep.yield ok) else pure (ForInStep.yield r)) (TP X pins σ Q) X.xe s:=by
 cases h with
 |nil=>exact wpAny_tests_nil ⟨H,I,a⟩
 |one h=>exact wpAny_tests_one (h pins s σ H Q I a)
def G0(nX:St)(acc:Addr)(g:TG)(tt:TT)(te:TE)(x:V)(ys:List V)(H:Hp)(N:List V->Hp->Prop):Prop:=
 g x nX H λσ2 H2=>fY nX σ2/\tt σ2 H2 λb H3=>if b=true then te σ2 H3 λy H4=>H4 acc=some (.lst ys)/\ys.length<sizeLine/\N (ys++[y]) (upd H4 acc (.lst (ys++[y]))) else N ys H3
def vJ(J:It)(nX:St)(acc:Addr)(g:TG)(tt:TT)(te:TE)(H:Hp)(Q:VK):Prop:=
 ∃W:Nat->Nat->List V->Hp->Prop,(∃m,W 0 m [] H)/\∀i m ys H,W i m ys H->H acc=some (.lst ys)/\
  ((J.stop i H/\Q (.ref acc) H)\/(J.go i H/\∃N:List V->Hp->Prop,(∀ys' H',N ys' H'->∃m',m'<m/\W (i+1) m' ys' H')/\∀x H',J.uB i H x H'->G0 nX acc g tt te x ys H' N))
def yI(own:List Str)(ix:List Nat)(wi:TI)(g:CP->TG)(tt:CP->TT)(te:CP->TE):TE:=λσ H Q=>
 wi σ H λJ H1=>∀(c:CP) (acc:Addr),H1 acc=none->vJ J (stC own ix σ) acc (g c) (tt c) (te c) (upd H1 acc (.lst [])) Q
section
variable{X:Cx}{scope:Scope}{own frees:List Str}{ix:List Nat}{tg elt iter:Expr}{ifs:List Expr}{pos:Pos}{wi:TI}{g:CP->TG}{tt:CP->TT}{te:CP->TE}
theorem Hj{J:It}{it acc:Addr}{fp:List Addr}{E:Nat->Heap->Prop}{c:CP}{σ:St}{H:Hp}{s:Shared}{Q:VK}{R:Result->Shared->Prop}
  (hfp:c.fp=fp)(T:Turn X.prog X.w X.K tg J fp it E)(hg:PG (bJ X (own++frees) scope c) tg (g c))(ht:gU (bJ X (own++frees) scope c) ifs (tt c))(he:PE (bJ X (own++frees) scope c) elt (te c))
  (j:∀b∈fp,∀H':Hp,H' b=none->fX (bJ X (own++frees) scope c) [] H' b)
  (I:Inv (bJ X (own++frees) scope c) [] (stC own ix σ) H s)(st:E 0 s.heap)(fr:∀b∈fp,H b=none)(h:vJ J (stC own ix σ) acc (g c) (tt c) (te c) H Q)
  (hR:∀s' H',Inv (bJ X (own++frees) scope c) [] (stC own ix σ) H' s'->Q (.ref acc) H'->R (.ok .next) s'):
  codeAny (model X.prog X.w) X.A (.compLoop (.ListComp elt [⟨tg,iter,ifs,0⟩] scope pos) 0 (.ref it) (.ref acc) (bJ X (own++frees) scope c).env) R s:=by
 obtain⟨W,⟨m0,w0⟩,turn⟩:=h
 refine codeAny_loop rfl (λn s'=>∃i ys H',Inv (bJ X (own++frees) scope c) [] (stC own ix σ) H' s'/\E i s'.heap/\(∀b∈fp,H' b=none)/\W i n ys H') (λn M hI=> ?_) m0 ⟨0,[],H,I,st,fr,w0⟩
 obtain⟨i,ys,H1,I1,p,v,w1⟩:=hI
 show wpAny _ X.A ((compTurn (.ListComp elt [⟨tg,iter,ifs,0⟩] scope pos) 0 (.ref it) (.ref acc) (bJ X (own++frees) scope c).env).onRaise (λx=>do noteFrame x (bJ X (own++frees) scope c).env;theTreesLotGoes x)) _ _ M
 have k:∀{α:Type} {t:Sem α} {P:α->Shared->Prop} {s:Shared},wpAny (model X.prog X.w) X.A t P (λ_ _=>False) s->wpAny (model X.prog X.w) X.A t P (notedBy (model X.prog X.w) X.A (bJ X (own++frees) scope c).env λe s'=>R (.error e) s') s:=
  λh=>nO h (λ_ _ q=>q) λ_ _ z=>z.elim
 refine wpAny_noted ?_
 rw[compTurn_list]
 obtain⟨ha,hw⟩:=turn i n ys H1 w1
 rcases hw with⟨stop,q⟩|⟨go,N,hN,step⟩
 .refine aC (uJ (aC (k (aK (T.done (bJ X (own++frees) scope c) rfl rfl rfl rfl i [] M _ H1 (λ_ _=>False) I1 (λb f=>j b f H1 (v b f)) p stop) λr s2 ⟨O,I2⟩=> ?_))))
  subst O
  exact aX (hR s2 H1 I2 q)
 .refine aC (uJ (aC (k (aK (T.item (bJ X (own++frees) scope c) rfl rfl rfl rfl i [] M _ H1 (λ_ _=>False) I1 (λb f=>j b f H1 (v b f)) p go) λr s2 ⟨u,O,h2⟩=> ?_))))
  subst O
  refine aC (k (aK h2 λ_ s3 ⟨x,S,I3,r3,y3,l,U⟩=> ?_))
  have V:=I3.pinned (λb f=>j b f S (U b f)) (T.obj _ _ l)
  refine aC (k (aK (hg _ s3 _ S x u _ V r3 (step x S y3)) λ_ s4 ⟨Rg,H4,I4,F,q4⟩=> ?_))
  refine aC (k (aK (ht.run I4 q4) λok s5 ⟨H5,Y,G⟩=> ?_))
  have a:∀{B:Shared} {C:St} {m:Hp},Inv (bJ X (own++frees) scope c) ([]++pS fp s3.heap) C m B->E (i+1) B.heap/\∀b∈fp,m b=none:=λ {B C m} D=>
   ⟨T.keep _ _ _ l λb f o e=>(D.pin (b,o) (gP _ (gP _ (sy f e)))).1,λb f=>by
    obtain⟨o,e,d⟩:=T.obj _ _ l b f
    exact(D.pin (b,o) (gP _ (gP _ (sy f e)))).2.1⟩
  cases ok with
  |false=>
   rw[ay (by decide)] at G
   obtain⟨Z,hm,w5⟩:=hN _ _ G
   obtain⟨k1,k2⟩:=a Y
   exact aX ⟨rfl,Z,hm,i+1,ys,H5,(Y.qe).weak F.len.symm F.get,k1,k2,w5⟩
  |true=>
   rw[aA rfl] at G
   refine aC (aC (k (aK (he _ s5 _ H5 _ Y G) λy B ⟨L,m,D,r6,a6,l6,q6⟩=> ?_)))
   obtain⟨Z,hm,w6⟩:=hN _ _ q6
   obtain⟨k1,k2⟩:=a D
   refine aC (k (aK (j5 (X:=bJ X (own++frees) scope c) _ B _ m (.ref acc) [L] (.ref acc) [y] (λ_ H7=>H7=upd m acc (.lst (ys++[L]))) D rfl (.cons r6 .nil) ⟨acc,ys,L,rfl,rfl,a6,l6,rfl⟩) λ_ s7 ⟨_,H7,I7,_,e7⟩=> ?_))
   subst e7
   obtain⟨k1,k2⟩:=a I7
   exact aX (aX ⟨rfl,Z,hm,i+1,ys++[L],_,(I7.qe).weak F.len.symm F.get,k1,k2,w6⟩)
structure u5(X:Cx)(pins:aQ)(C:Addr)(H:Hp):Prop where
 no:H C=none
 loc:C≠X.env.locals
 old:X.s₀.heap.objs.size<=C
 gj:∀x c,X.env.cells.lookup x=some c->c≠C
 pin:∀p∈X.pn++pins,p.1≠C
theorem u5.inv{pins:aQ}{σ:St}{H:Hp}{s:Shared}{C:Addr}{h':Heap}(G:u5 X pins C H)(I:Inv X pins σ H s)(a:SameBut C s.heap h'):Inv X pins σ H {s with heap:=h'}:=
 Hu I G.no G.loc G.old G.gj G.pin a
theorem AD{pins:aQ}{σ:St}{H:Hp}{s:Shared}{Q:VK}{L:Value->Addr->Result->Shared->Prop}{E:bw}{J:It}{it:Addr}{fp:List Addr}{M:Nat->Heap->Prop}
  (S:fK X scope frees)(hc:X.calm=true)(Z:ix.map (λi=>X.N[i]?)=frees.map some)
  (hg:∀c,PG (bJ X (own++frees) scope c) tg (g c))(ht:∀c,gU (bJ X (own++frees) scope c) ifs (tt c))(he:∀c,PE (bJ X (own++frees) scope c) elt (te c))
  (I:Inv X pins σ H s)(T:Turn X.prog X.w X.K tg J fp it M)(st:M 0 s.heap)(W:∀b∈fp,fX X pins H b)
  (h:∀(c:CP) (acc:Addr),H acc=none->vJ J (stC own ix σ) acc (g c) (tt c) (te c) (upd H acc (.lst [])) Q)
  (O:∀(acc C:Addr) s' H' m,Inv X pins σ H' s'->s'.heap.Ns C m->u5 X pins C H'->Q (.ref acc) H'->L (.ref acc) C (.ok .next) s'):
  wpAny (model X.prog X.w) X.A (newList []) (λacc r=>wpAny (model X.prog X.w) X.A (newFunctionEnv scope X.env.globals (e9 X.env scope.names []) [] X.env.qual none .none (some X.env)) (λl t=>
   codeAny (model X.prog X.w) X.A (.compStart (.ListComp elt [⟨tg,iter,ifs,0⟩] scope pos) 0 (.ref it) acc {l with scope:=relabel scope X.env}) (L acc l.locals) t) E r) E s:=by
 refine lS (wpAny_newFunctionEnv S.C6 (by intro y hy;simp at hy) (λa u B=> ?_) S.kind)
 dsimp only at u B ⊢
 have P:H s.heap.objs.size=none:=I.hok.fresh (aI _)
 have n:Inv X pins σ (upd H s.heap.objs.size (.lst [])) {s with heap:=s.heap.push {cls:= .type "list",data:= .seq ([]:List Value).toArray}}:=I.CJ (its:=[]) (t':=s.toks) .nil (cV _)
 generalize D:({s with heap:=s.heap.push {cls:= .type "list",data:= .seq ([]:List Value).toArray}}:Shared)=f at n
 have F:f.heap=s.heap.push {cls:= .type "list",data:= .seq ([]:List Value).toArray}:=by rw[<-D]
 have Y:∀b∈fp,b<s.heap.objs.size:=λb j=>by
  obtain⟨o,e,_⟩:=T.obj _ _ st b j
  exact bh e
 have sz:f.heap.objs.size=s.heap.objs.size+1:=by rw[F,size_push]
 have k:∀b∈fp,fX X pins (upd H s.heap.objs.size (.lst [])) b/\b<f.heap.objs.size:=λb j=>
  ⟨⟨by rw[aV (cU (Y b j))];exact(W b j).1,(W b j).2⟩,by rw[sz];exact Nat.lt_succ_of_lt (Y b j)⟩
 have kp:∀b o,f.heap.get? b=some o->a.get? b=some o:=λb o e=>by
  refine B.extBut b o ?_ (bP _ (F▸e))
  rw[<-F]
  exact cU (bh e)
 have R:a.Ns f.heap.objs.size (λx=>([]:List (Str×Value)).reverse.lookup x):=by rw[F];exact u
 have J0:Inv (bJ X (own++frees) scope ⟨f.heap.objs.size,f,upd H s.heap.objs.size (.lst []),pins,fp⟩) [] (stC own ix σ) (upd H s.heap.objs.size (.lst [])) {f with heap:=a,toks:=s.toks+0}:=
  Hv S hc n k rfl Z ⟨_,R⟩ kp
 have U:∀b∈fp,∀H':Hp,H' b=none->fX (bJ X (own++frees) scope ⟨f.heap.objs.size,f,upd H s.heap.objs.size (.lst []),pins,fp⟩) [] H' b:=λb j H' hn=>Ht S n k rfl j hn
 have G:M 0 a:=T.keep _ _ _ st λb j o e=>kp b o (by rw[F];exact bP _ e)
 have loop:codeAny (model X.prog X.w) X.A (.compLoop (.ListComp elt [⟨tg,iter,ifs,0⟩] scope pos) 0 (.ref it) (.ref s.heap.objs.size) (bJ X (own++frees) scope ⟨f.heap.objs.size,f,upd H s.heap.objs.size (.lst []),pins,fp⟩).env)
   (L (.ref s.heap.objs.size) f.heap.objs.size) {f with heap:=a,toks:=s.toks+0}:=by
  refine Hj rfl T (hg _) (ht _) (he _) U J0 G (λb j=>(k b j).1.1) (h _ _ P) λs' H' V q=> ?_
  obtain⟨m,hm,_⟩:=V.loc
  refine O _ _ s' H' m (Hs n k V) hm ⟨V.free,lQ n.lt,n.sz,λx c e z=> ?_,λp hp z=> ?_⟩ q
  .obtain⟨v,q⟩:=n.cell x c e
   exact absurd (dz q.lt (by rw[z];exact aI _)) (fV _)
  .exact absurd (dz (bh (n.pin p hp).1) (by rw[z];exact aI _)) (fV _)
 have d:=loop
 rw[<-D] at d
 exact codeAny_compStart_list d (T.self _ 0 _ _ _ G d)
theorem Dl(hi:PI X tg iter wi)
  (d:∀c,PG (bJ X (own++frees) scope c) tg (g c))(f:∀c,gU (bJ X (own++frees) scope c) ifs (tt c))(j:∀c,PE (bJ X (own++frees) scope c) elt (te c))(S:fK X scope frees:=by exact⟨rfl,by decide+kernel,by decide+kernel,by decide+kernel,by decide+kernel,rfl⟩)(hc:X.calm=true:=by rfl)(k:ix.map (λi=>X.N[i]?)=frees.map some:=by rfl)(l:∀x,foldedSetIterable iter X.env x=pure x:=by intro _;rfl):
  PE X (.ListComp elt [⟨tg,iter,ifs,0⟩] scope pos) (yI own ix wi g tt te):=by
 intro pins s σ H Q I h;rw[eval_ListComp];refine wpAny_comprehension_free (use:=none) rfl l (Ay (S.has I.ok)) S.kind S.locs (aK (hi pins s σ H _ I h) λv u h1=>aK h1 λn w h2=>?_);obtain⟨it,fp,y,J,H2,e,o,T,a,f2,p⟩:=h2;subst e;refine AD S hc k d f j o T a f2 p λacc C s' H' m r t G q=>?_;exact⟨m,t,λh' b=>⟨.ref acc,H',G.inv r b,rfl,q⟩⟩
theorem DA{i:Nat}{x:Str}{pos' spos:Pos}(b:X.N.Nodup)(d:X.N[i]? =some x)(o:Loc X.env.scope x)(hi:PI X tg iter wi)
  (p:∀c,PG (bJ X (own++frees) scope c) tg (g c))(r:∀c,gU (bJ X (own++frees) scope c) ifs (tt c))(t:∀c,PE (bJ X (own++frees) scope c) elt (te c))(S:fK X scope frees:=by exact⟨rfl,by decide+kernel,by decide+kernel,by decide+kernel,by decide+kernel,rfl⟩)(hc:X.calm=true:=by rfl)(u:ix.map (λi=>X.N[i]?)=frees.map some:=by rfl)(w:∀x,foldedSetIterable iter X.env x=pure x:=by intro _;rfl)
  (f:swapsWith (.ListComp elt [⟨tg,iter,ifs,0⟩] scope pos) (some (.Name x pos')) spos.line X.env=pure true:=by rfl)(y:X.fn x=true\/X.env.scope.names.lookup x=some .local:=by first|exact .inl rfl|exact .inr rfl|assumption):
  PS X (.Assign [.Name x pos'] (.ListComp elt [⟨tg,iter,ifs,0⟩] scope pos) spos) (um (yI own ix wi g tt te) (mZ i)):=by
 intro pins s σ H D I h
 rw[exec_Assign_Name_used _ _ _ _ f]
 refine aC (uJ (aC ?_))
 show wpAny _ X.A (do let _ <-comprehension (.ListComp elt [⟨tg,iter,ifs,0⟩] scope pos) scope X.env _ (newList []) false (eval iter X.env) (some (assign (.Name x pos') X.env))) _ _ s
 refine aC (nO (wpAny_comprehension_free (use:=some (assign (.Name x pos') X.env)) (Q:=λ_ s'=>SP X pins D .next s') rfl w (Ay (S.has I.ok)) S.kind S.locs
  (aK (hi pins s σ H _ I h) λv R h1=>aK h1 λz B h2=> ?_)) (λ_ s' E=>aX (aX E)) λ_ _ e=>e)
 obtain⟨it,fp,U,J,H2,e,F,T,j,f2,K⟩:=h2
 subst e
 refine AD S hc u p r t F T j f2 K λacc C s' H' m L M G q=> ?_
 show wpAny _ X.A (assign (.Name x pos') X.env (.ref acc)) _ _ _
 refine wpAny_assign_Name (Fb L b d o (v:= .ref acc) rfl (λB k ch=> ?_) y)
 obtain⟨a,O,P⟩:=ch
 have l:C≠a:=by
  rcases P with e|e
  .rw[e];exact G.loc
  .exact(G.gj _ _ e).symm
 exact⟨m,M.sameBut O l,λh' n=>⟨_,H',G.inv k n,q⟩⟩
end
section
variable{X:Cx}
theorem Am:∀{bs:List Bool} {its:List Value},Vals (bs.map V.bl) its->LSm.BoolsAre its bs
 |[],_,.nil=>.nil
 |b::r,_,.cons q t=>by
  cases q;exact .cons b (Am t)
theorem vK(hc:X.calm=true):eU X (.builtin "all") (λxs H Q=>∃(p:Addr) (bs:List Bool),xs=[.ref p]/\aS X.K H p (bs.map V.bl)/\Q (.bl (bs.all id)) H):=by
 intro pins s σ H xs o Q I r h;obtain⟨p,bs,rfl,g,q⟩:=h;obtain⟨u,rfl,j⟩:=vals1 r;cases j;obtain⟨a,k,pl,hz⟩:=I.list g;have d:=Am k;have hl:=pl.isList;have c:p<s.heap.objs.size:=by obtain⟨_,e,_⟩:=hl;exact bh e
 refine call_all_walk (wpAny_pyIter_list hl ?_);refine⟨s.heap.objs.size,[s.heap.objs.size,p],[s.heap.objs.size],a.toArray.size,_,_,λi=>(bs[i]?).getD true,rfl,Walks.list (A:=X.A.in1) (I.ok.hd hc) _ p (cU c) a.toArray,
  ⟨⟨_,eT _ rfl,rfl,rfl⟩,hl.push _⟩,λi v s' t w l f=>?_,λh' m n=>?_⟩
 .obtain⟨b,e,rfl⟩:=d.get i v (by simpa using l)
  simp only[e,Option.getD_some] at f;exact lV f
 .have e:((range a.toArray.size).all λi=>(bs[i]?).getD true)=bs.all id:=by
   rw[cA,d.length];exact LSm.range_all bs
  rw[e];exact⟨.bl _,H,I.kept (h':=h') (t':=m) (LSm.kept_iter n),rfl,q⟩
theorem MI:a_ X (binaryOp .FloorDiv) (rI (λ_ j=>0<j/\j.natAbs.log2<9000) λi j=>.int (i/j)):=ya λi j _ _ _ _ _ hc q=>by
 have h1:(0:Int)<j:=hc.1;exact floordiv_int (by omega) (by rw[Int.fdiv_eq_ediv_of_nonneg i (by omega)];exact q) (.inl (PyProof.noPylong_of_log2 hc.2))
def vd(y:Str):It:=⟨λi _=>i<y.cps.size,λi H x H'=>H'=H/\∃c,y.cps[i]?=some c/\x=.str ⟨#[c]⟩,λi _=>i=y.cps.size⟩
theorem QU{P:Program}{w:World}{K:Frag}{nm:Str}{px:Pos}{ty:String}{y:Str}{t:Tok}(it:Addr)
  (W:∀A:Around,A.handled=none->Walks P w A it [it] [it] y.cps.size (SignAt y) (λi h=>h.IsStrIter it ty y t i))
  (F:∀(A:Around) (i:Nat) (s:Shared) (Q:bw) (E:bw),s.heap.IsStrIter it ty y t i->Q (.ref it) s->wpAny (model P w) A (pyIter (.ref it)) Q E s):Turn P w K (.Name nm px) (vd y) [it] it (λi h=>h.IsStrIter it ty y t i) where
 mem:=by simp
 obj:=λi h st b a=>by
  have e:b=it:=by simpa using a
  subst e
  obtain⟨o,e,c,d⟩:=st
  exact⟨o,e,λv z=>by rw[d] at z;cases z⟩
 keep:=λi h h' st k=>let ⟨o,G,r⟩:=st;⟨o,k it (by simp) o G,r⟩
 item:=by
  intro X f j l hc i pins s σ H E I g st m
  subst f j l
  obtain⟨f0,f1,f2,n,f4,p⟩:=g it (by simp)
  refine(W X.A (I.ok.hd hc)).item i s _ _ m st λv h' D f q x=> ?_
  obtain⟨c,u,B,rfl⟩:=f
  have J:Inv X pins σ H {s with heap:=h',toks:=D}:=I.turned (λb o a e=>x b o (by simpa using a) e) f0 f1 n f4 p
  exact⟨_,rfl,aX ⟨.str ⟨#[c]⟩,H,J,⟨u,rfl⟩,⟨rfl,c,B,rfl⟩,q,λb a=>(g b a).1⟩⟩
 done:=by
  intro X f j l hc i pins s σ H E I g st m
  subst f j l
  obtain⟨f0,f1,f2,n,f4,p⟩:=g it (by simp)
  have C:i=y.cps.size:=m
  subst C
  exact(W X.A (I.ok.hd hc)).done s _ _ st λh' D x=>⟨rfl,I.turned (λb o a e=>x b o (by simpa using a) e) f0 f1 n f4 p⟩
 self:=λA i s Q E st h=>F A i s Q E st h
def KQ(tl:TE):TI:=λσ H R=>tl σ H λx H1=>∃y,x=.str y/\R (vd y) H1
theorem Nz{l:Expr}{tl:TE}{nm:Str}{px:Pos}(hl:PE X l tl):PI X (.Name nm px) l (KQ tl):=by
 intro pins s σ H R I h;refine aK (hl pins s σ H _ I h) λv a ⟨x,H1,c,j,k⟩=>?_;obtain⟨y,e,q⟩:=k;subst e;obtain⟨t,rfl⟩:=j;have fin:∀(ty:String) (o:Obj) (W:∀A:Around,A.handled=none->Walks X.prog X.w A a.heap.objs.size [a.heap.objs.size] [a.heap.objs.size] y.cps.size (SignAt y) (λi h=>h.IsStrIter a.heap.objs.size ty y t i))
   (f:∀(A:Around) (i:Nat) (s:Shared) (Q:bw) (E:bw),s.heap.IsStrIter a.heap.objs.size ty y t i->Q (.ref a.heap.objs.size) s->wpAny (model X.prog X.w) A (pyIter (.ref a.heap.objs.size)) Q E s),
   (a.heap.push o).IsStrIter a.heap.objs.size ty y t 0->vh X pins σ (.Name nm px) R (.ref a.heap.objs.size) {a with heap:=a.heap.push o}:=λty o W f st=>by
  refine⟨a.heap.objs.size,[a.heap.objs.size],_,_,H1,rfl,c.kept (t':=a.toks) λb o e=>bP _ e,QU _ W f,st,λb m=>?_,q⟩;have e:b=a.heap.objs.size:=by simpa using m
  subst e;exact c.jY (aI _) (c.hok.fresh (aI _))
 cases g:y.cps.all (·<128)
 .exact wpAny_pyIter_wide g (fin _ _ (λA' d=>Walks.strWide d _ y t) (λ_ _ _ _ _ st h=>wpAny_pyIter_striter_wide st h) ⟨_,eT _ rfl,rfl,rfl⟩)
 .exact wpAny_pyIter_ascii g (fin _ _ (λA' d=>Walks.strAscii d _ y t) (λ_ _ _ _ _ st h=>wpAny_pyIter_striter_ascii st h) ⟨_,eT _ rfl,rfl,rfl⟩)
end
mutual
inductive Dp(K:Frag)(H:Hp):V->PyData->Prop
 |ai:Dp K H .ai .none
 |bl (b:Bool):Dp K H (.bl b) (.bool b)
 |int (i:Int):Dp K H (.int i) (.int i)
 |str (x:Str):Dp K H (.str x) (.str x)
 |lst {a:Addr} {xs:List V} {ds:List PyData}:aS K H a xs->fL K H xs ds->Dp K H (.ref a) (.list ds)
 |tup {a:Addr} {xs:List V} {ds:List PyData}:bu K H a xs->fL K H xs ds->Dp K H (.ref a) (.tuple ds)
inductive fL(K:Frag)(H:Hp):List V->List PyData->Prop
 |nil:fL K H [] []
 |cons {v:V} {vs:List V} {d:PyData} {ds:List PyData}:Dp K H v d->fL K H vs ds->fL K H (v::vs) (d::ds)
end
section
variable{X:Cx}{pins:aQ}{σ:St}{H H':Hp}{s:Shared}{K:Frag}
mutual
theorem Dp.reads(I:Inv X pins σ H s):∀(d:PyData) (v:V) (u:Value),Dp X.K H v d->RelV v u->∃as,Reads s.heap u d as
 |.none,_,_,h,r=>by cases h;cases r;exact⟨_,.none⟩
 |.bool b,_,_,h,r=>by cases h;cases r;exact⟨_,.bool b⟩
 |.int i,_,_,h,r=>by cases h;obtain⟨t,rfl⟩:=r;exact⟨_,.int i t⟩
 |.str x,_,_,h,r=>by cases h;obtain⟨t,rfl⟩:=r;exact⟨_,.str x t⟩
 |.list ds,_,_,h,r=>by
  cases h with
  |lst a c=>
   cases r;obtain⟨its,f,pl,hz⟩:=I.list a;obtain⟨as,ra⟩:=fL.reads I ds _ _ c f;obtain⟨o,e,hc,n,hd⟩:=pl.isList;exact⟨_,.list e hc hd (by simpa using ra)⟩
 |.tuple ds,_,_,h,r=>by
  cases h with
  |tup a c=>
   cases r;obtain⟨its,f,pl,hz⟩:=I.tuple a;obtain⟨as,ra⟩:=fL.reads I ds _ _ c f;obtain⟨o,e,hc,n,hd⟩:=pl;exact⟨_,.tuple e hc hd (by simpa using ra)⟩
 |.dict _,_,_,h,_=>nomatch h
theorem fL.reads(I:Inv X pins σ H s):∀(ds:List PyData) (a:List V) (b:List Value),fL X.K H a ds->Vals a b->∃as,ReadsAll s.heap b ds as
 |[],_,_,h,r=>by cases h;cases r;exact⟨_,.nil⟩
 |d::ds,_,_,h,r=>by
  cases h with
  |cons h1 h2=>
   cases r with
   |cons c e=>
    obtain⟨as,a1⟩:=Dp.reads I d _ _ h1 c;obtain⟨bs,a2⟩:=fL.reads I ds _ _ h2 e;exact⟨_,.cons a1 a2⟩
end
def yk(K:Frag):R2:=λx y H Q=>∃d e,Dp K H x d/\Dp K H y e/\d.canLay0=true/\e.canLay0=true/\min d.depth e.depth<=64/\Q (.bl (PyData.eqv d e)) H
def yp(K:Frag):R2:=λx y H Q=>∃d e,Dp K H x d/\Dp K H y e/\d.canLay0=true/\e.canLay0=true/\min d.depth e.depth<=64/\Q (.bl (!PyData.eqv d e)) H
theorem MH(i:X.A.units+64<cLine):a_ X (compareOp .Eq) (yk X.K):=by
 intro pins s σ H x y v u Q I a b h;obtain⟨d,e,h1,h2,c,f,hd,q⟩:=h;obtain⟨as,ra⟩:=Dp.reads I d x v h1 a;obtain⟨bs,g⟩:=Dp.reads I e y u h2 b;exact SeqAt.compareEq_reads ra g c f (by omega) ⟨.bl _,H,I,rfl,q⟩
theorem MT(i:X.A.units+64<cLine):a_ X (compareOp .NotEq) (yp X.K):=by
 intro pins s σ H x y v u Q I a b h;obtain⟨d,e,h1,h2,c,f,hd,q⟩:=h;obtain⟨as,ra⟩:=Dp.reads I d x v h1 a;obtain⟨bs,g⟩:=Dp.reads I e y u h2 b;exact SeqAt.compareNe_reads ra g c f (by omega) ⟨.bl _,H,I,rfl,q⟩
theorem jq.new{p:Addr}(h:H p=none)(o:HO):jq H (upd H p o):=λb u q=>by rw[aV (dN q h)];exact q
theorem fL.ints:∀(xs:List Int),fL K H (xs.map V.int) (xs.map PyData.int)
 |[]=>.nil
 |x::r=>.cons (.int x) (fL.ints r)
end
section
variable{P:Program}{w:World}{K:Frag}{mg:aq}{base:Heap}
def TopD(K:Frag)(mg:aq)(x:Str)(st:Stmt)(ps:List Str):Prop:=∃f fd,jn K x x st f fd/\Binds K fd ps []/\mg x=some (.ref f)
end
section
variable{X:Cx}{k:Nat}{x:Str}{ps:List Str}{sp:Sp}{e:Expr}{es:List Expr}{t:TA}{p pos:Pos}
theorem MN:a_ X (compareOp .LtE) (λx y H Q=>∃i j,x=.str i/\y=.str j/\Q (.bl (!decide (j.cps.toList<i.cps.toList))) H):=by
 intro pins s σ H x y v u Q I a b h;obtain⟨i,j,rfl,rfl,q⟩:=h;obtain⟨t,rfl⟩:=a;obtain⟨t',rfl⟩:=b;exact PySem.P.le_str (bZ I q rfl)
end
def u_(K:Frag)(a:Addr):It:=
 ⟨λi H=>∃xs x,aS K H a xs/\xs[i]?=some x,λi H x H'=>∃p y,H p=none/\x=.ref p/\H'=upd H p (.tup [.int (i:Nat),y])/\∀xs,aS K H a xs->xs[i]?=some y,λi H=>∃xs,aS K H a xs/\xs.length<=i⟩
theorem QL{P:Program}{w:World}{K:Frag}{elts:List Expr}{k:Nat}{pos:Pos}(a e it:Addr)(C:e≠it):
  Turn P w K (.Tuple elts k pos) (u_ K a) [e,it] e (λi h=>(∃old,IsEnum h e it i old)/\h.IsListIter it a i) where
 mem:=by simp
 obj:=λi h st b f=>by
  have j:b=e\/b=it:=by simpa using f
  obtain⟨⟨old,t⟩,o,e1,c,d⟩:=st
  rcases j with z|z
  .subst z
   exact⟨_,t,λv z=>nomatch (show Data.fields _=Data.cell v from z)⟩
  .subst z
   exact⟨o,e1,λv z=>by rw[d] at z;cases z⟩
 keep:=λi h h' st kp=>by
  obtain⟨⟨old,t⟩,st⟩:=st
  exact⟨⟨old,kp e (by simp) _ t⟩,st.at λo q=>kp it (by simp) o q⟩
 item:=by
  intro X O Q R hc i pins s σ H E I J st S
  subst O Q R
  obtain⟨xs,x,L,T⟩:=S
  obtain⟨its,U,p,hz⟩:=I.list L
  obtain⟨u,hu,ru⟩:=U.get T
  obtain⟨f0,f1,f2,f3,f4,f5⟩:=J e (by simp)
  obtain⟨M,N,g2,V,W,Y⟩:=J it (by simp)
  obtain⟨⟨old,t⟩,y⟩:=st
  refine wpAny_pyNext_enum_item t y p.isList (x:=u) (by simpa using hu) C λh' ho D hT hsz hk=> ?_
  refine⟨_,rfl,wpAny_letOwnedTupleGo_enum ho λA F l=> ?_⟩
  have B:H s.heap.objs.size=none:=I.hok.fresh (aI _)
  have elt:e<s.heap.objs.size:=bh t
  have Z:it<s.heap.objs.size:=by obtain⟨_,q,_⟩:=y;exact bh q
  have kp:∀b o,b≠e->b≠it->s.heap.get? b=some o->A.get? b=some o:=λb o n1 n2 q=>(l.2 b n1).trans (hk b o n1 n2 q)
  have jw:A.get? s.heap.objs.size=some {cls:= .type "tuple",data:= .seq #[.int i s.toks,u]}:=(l.2 _ (lQ elt)).trans hT
  have nb:∀b,b∉[e,it]->b≠e/\b≠it:=λb f=>⟨λz=>f (by simp[z]),λz=>f (by simp[z])⟩
  have nT:∀b o,s.heap.get? b=some o->b≠s.heap.objs.size:=λb o q=>cU (bh q)
  have I1:Inv X pins σ (upd H s.heap.objs.size (.tup [.int (i:Nat),x])) {s with heap:=A,toks:=s.toks+1}:=by
   refine I.step (g':=s.gens) (d':=s.drawn) (ch:=[e,it]) (λb f=> ?_) (λb o _ _ f q _=>kp b o (nb b f).1 (nb b f).2 q) (λb o _ _ f q _=>⟨o.slots,kp b o (nb b f).1 (nb b f).2 q⟩)
    (λb o f q n=>by rw[aV (nT b o q)];exact n) (λb o f q=>⟨o,kp b o (nb b f).1 (nb b f).2 q⟩) (λb ys q=>by rw[aV (dN q B)];exact q) (λb o v q=>by rw[aV (dN q B)];exact q)
    (λb ps q=>⟨#[],by rw[aV (dN q B),q];simp⟩) (λm hm=> ?_) (λb v q=> ?_) I.bare
   .have j:b=e\/b=it:=by simpa using f
    rcases j with z|z
    .subst z;exact⟨f3,f1,f4,f5⟩
    .subst z;exact⟨V,N,W,Y⟩
   .obtain⟨o,es,ep,q,r⟩:=hm
    exact⟨o,es,ep,kp _ o (Ne.symm f1) (Ne.symm N) q,r⟩
   .by_cases f:b=s.heap.objs.size
    .subst f
     rw[ee] at q
     cases q
     exact⟨by show 2<=sizeLine;decide,[.int i s.toks,u],.cons ⟨_,rfl⟩ (.cons ru .nil),_,jw⟩
    .rw[aV f] at q
     have ne1:∀c v',H c=some v'->c≠e/\c≠it:=λc v' g=>⟨λz=>(by rw[z,f0] at g;cases g),λz=>(by rw[z,M] at g;cases g)⟩
     refine(I.hok b v q).stay (λc w' G g=>kp c w' ?_ ?_ g) (λc g=>by rw[aV (dN g B)];exact g) λc ys g=>by rw[aV (dN g B)];exact g
     .rcases G with z|z
      .rw[z];exact(ne1 b v q).1
      .exact(ne1 c _ z).1
     .rcases G with z|z
      .rw[z];exact(ne1 b v q).2
      .exact(ne1 c _ z).2
  refine⟨.ref s.heap.objs.size,_,I1,rfl,⟨s.heap.objs.size,x,B,rfl,rfl,λys hy=>by rw[I.xH hy L];exact T⟩,⟨⟨u,by simpa using F⟩,D.at λo q=>(l.2 it C.symm).trans q⟩,λb f=> ?_⟩
  have j:b=e\/b=it:=by simpa using f
  rcases j with z|z
  .subst z;rw[aV (cU elt)];exact f0
  .subst z;rw[aV (cU Z)];exact M
 done:=by
  intro X O Q R hc i pins s σ H E I J st S
  subst O Q R
  obtain⟨xs,L,T⟩:=S
  obtain⟨its,U,p,hz⟩:=I.list L
  obtain⟨M,N,g2,V,W,Y⟩:=J it (by simp)
  obtain⟨⟨old,t⟩,y⟩:=st
  have hl:=U.length
  exact wpAny_pyNext_enum_end (I.ok.hd hc) t y p.isList (by simp;omega) λh' eb=>⟨rfl,I.turned (t':=s.toks) (λb o f e=>eb b o f e) M N V W Y⟩
 self:=λ_ _ _ _ _ st h=>by
  obtain⟨⟨old,t⟩,_⟩:=st
  exact wpAny_pyIter_enum t h
section
variable{X:Cx}
def KD(K:Frag)(ta:TA):TI:=λσ H R=>ta σ H λvs H1=>∃a xs,vs=[.ref a]/\aS K H1 a xs/\R (u_ K a) H1
theorem Nr{l:Expr}{ta:TA}{elts:List Expr}{k:Nat}{tpos p pos:Pos}(j:Gl X "enumerate")(m:X.mg "enumerate"=none)(n:PA X [l] ta)(f:bootBuiltins "enumerate"=some (.type "enumerate"))(o:starEach [l] X.env=[(false,eval l X.env)]:=by rfl):
  PI X (.Tuple elts k tpos) (.Call (.Name "enumerate" p) [l] [] pos) (KD X.K ta):=by
 intro pins s σ H R I h;refine Call_ (j4 I j m f (nJ (aK (n pos pins s σ H _ I h) λA c ⟨B,H1,d,r,t⟩=>?_) o rfl));obtain⟨a,xs,e,v,q⟩:=t;subst e;obtain⟨u,rfl,w⟩:=vals1 r;cases w;obtain⟨its,C,pl,hz⟩:=d.list v;refine call_enumerate_list pl.isList λh' i hit hsz x=>?_;have y:Inv X pins σ H1 {c with heap:=h'}:=d.kept (t':=c.toks) x;refine wpAny_pyIter_enum i ⟨_,[c.heap.objs.size+1,c.heap.objs.size],_,_,H1,rfl,y,QL a _ _ (lQ (Nat.lt_succ_self _)),⟨⟨_,i⟩,hit⟩,λb f=>?_,q⟩;have g:b=c.heap.objs.size+1\/b=c.heap.objs.size:=by simpa using f
 rcases g with z|z
 .subst z
  exact d.jY (le_succ _) (d.hok.fresh (le_succ _))
 .subst z
  exact d.jY (aI _) (d.hok.fresh (aI _))
def Qf(K:Frag)(ta:TA):TE:=λσ H Q=>ta σ H λvs H1=>∃a b xs ys,vs=[.ref a,.ref b]/\aS K H1 a xs/\aS K H1 b ys/\
 ∀(l:Addr) (H':Hp) (ps:List V),jq H1 H'->H1 l=none->H' l=some (.lst ps)->ps.length=min xs.length ys.length->(∀(j:Nat) p,ps[j]?=some p->∃t x y,p=.ref t/\xs[j]?=some x/\ys[j]?=some y/\H' t=some (.tup [x,y]))->Q (.ref l) H'
theorem Inv.many{pins:aQ}{σ:St}{H H':Hp}{s:Shared}{h':Heap}{t':Nat}(I:Inv X pins σ H s)(kp:∀b o,s.heap.get? b=some o->h'.get? b=some o)(d:jq H H')
  (a:∀b o,H' b=some o->H b=some o\/(s.heap.objs.size<=b/\bQ X.prog X.w H' h' b o)):Inv X pins σ H' {s with heap:=h',toks:=t'}:=by
 refine I.un (h':=h') (t':=t') ⟨λb o q _ _ _=>kp b o q,λb o q _ _ _=>⟨o.slots,kp b o q⟩,λb o q n _=>?_,λb o q _=>⟨o,kp b o q⟩,λb xs q=>d _ _ q,λb o u q=>d _ _ q,λb ps q=>⟨#[],by rw[d _ _ q];simp⟩⟩ λb o q=>?_
 .cases e:H' b with
  |none=>rfl
  |some u=>
   rcases a b u e with z|⟨z,_⟩
   .rw[n] at z;cases z
   .exact absurd (dz (bh q) z) (fV _)
 .rcases a b o q with z|⟨_,z⟩
  .exact(I.hok b o z).stay (λc v _ r=>kp c v r) (λc r=>d _ _ r) λc xs r=>d _ _ r
  .exact z
theorem Nd{a b:Expr}{ta:TA}{p1 p2 m d:Pos}(O:Gl X "list")(P:X.mg "list"=none)(R:bootBuiltins "list"=some (.type "list"))(S:Gl X "zip")(T:X.mg "zip"=none)(U:bootBuiltins "zip"=some (.type "zip"))(hc:X.calm=true)(ha:PA X [a,b] ta)
  (hs:starEach [a,b] X.env=[(false,eval a X.env),(false,eval b X.env)]:=by rfl)(n:starEach [b] X.env=[(false,eval b X.env)]:=by rfl)
  (hz:starEach [.Call (.Name "zip" p2) [a,b] [] d] X.env=[(false,eval (.Call (.Name "zip" p2) [a,b] [] d) X.env)]:=by rfl):
  PE X (.Call (.Name "list" p1) [.Call (.Name "zip" p2) [a,b] [] d] [] m) (Qf X.K ta):=by
 intro pins s σ H Q I h
 refine qm (j4 I O P R ?_)
 refine nJ ?_ hz rfl
 rw[hz]
 refine Calls.spliced_cons (qm (j4 I S T U (nJ (aK (ha d pins s σ H _ I h) λus c ⟨vs,H1,k,r1,q1⟩=> ?_) (by rw[hs,n]) (by rw[n];rfl))))
 obtain⟨pa,pb,xs,ys,e,hx,hy,q⟩:=q1
 subst e
 obtain⟨u1,u2,rfl,W,Y⟩:=vals2 r1
 cases W
 cases Y
 obtain⟨t,A,Z,hz1⟩:=k.list hx
 obtain⟨B,C,ND,hz2⟩:=k.list hy
 have l1:=A.length
 have l2:=C.length
 refine aK (ZL.LC (E:=X.xe) (Q:=EP X pins σ Q) (k.ok.hd hc) Z.isList ND.isList (by simp only[cA];omega) λh' c' hp hS kp=> ?_) λz s2 hq=>Calls.spliced_nil hq
 have em:min t.toArray.size B.toArray.size=min xs.length ys.length:=by simp only[cA];omega
 rw[em] at hS
 have hn:∀j:Nat,H1 (c.heap.objs.size+j)=none:=λj=>k.hok.fresh (mu _ _)
 have pair:∀j:Nat,j<min xs.length ys.length->∃x y u v,xs[j]? =some x/\ys[j]? =some y/\RelV x u/\RelV y v/\IsPair h' (c.heap.objs.size+6+j) u v:=λj hj=>by
  have D:xs[j]? =some (xs[j]'(by omega)):=bO _
  have F:ys[j]? =some (ys[j]'(by omega)):=bO _
  obtain⟨u,hu,ru⟩:=A.get D
  obtain⟨v,hv,f⟩:=C.get F
  exact⟨_,_,u,v,D,F,ru,f,hp j u v (by simpa using hu) (by simpa using hv)⟩
 let H':Hp:=λb=>if b=c.heap.objs.size+5 then some (.lst ((range (min xs.length ys.length)).map λj=>V.ref (c.heap.objs.size+6+j))) else
  if c.heap.objs.size+6<=b/\b - (c.heap.objs.size+6)<min xs.length ys.length then some (.tup [(xs[b - (c.heap.objs.size+6)]?).getD .ai,(ys[b - (c.heap.objs.size+6)]?).getD .ai]) else H1 b
 have G:H' (c.heap.objs.size+5)=some (.lst ((range (min xs.length ys.length)).map λj=>V.ref (c.heap.objs.size+6+j))):=by
  show(if _ then _ else _)=_
  rw[aA rfl]
 have J:∀(j:Nat) x y,xs[j]? =some x->ys[j]? =some y->H' (c.heap.objs.size+6+j)=some (.tup [x,y]):=λj x y g i=>by
  have j1:=(bR.mp g).1
  have j2:=(bR.mp i).1
  have L:c.heap.objs.size+6+j - (c.heap.objs.size+6)=j:=Nat.add_sub_cancel_left _ _
  have Kg:j<min xs.length ys.length:=Nat.lt_min.mpr ⟨j1,j2⟩
  show(if _ then _ else if _ then _ else _)=_
  rw[ay (λz=>by have z': @Eq Nat (c.heap.objs.size+6+j) (c.heap.objs.size+5):=z;omega),aA ⟨mu _ _,by rw[L];exact Kg⟩,L,g,i]
  rfl
 have hold:jq H1 H':=λb o e=>by
  have hb: @LT.lt Nat _ b c.heap.objs.size:=k.hok.lt e
  show(if _ then _ else if _ then _ else _)=_
  rw[ay (λz=>by have z': @Eq Nat b (c.heap.objs.size+5):=z;omega),ay (λz=>by have z': @LE.le Nat _ (c.heap.objs.size+6) b:=z.1;omega)]
  exact e
 have M:∀b o,H' b=some o->H1 b=some o\/(c.heap.objs.size<=b/\bQ X.prog X.w H' h' b o):=λb o e=>by
  by_cases hb:b=c.heap.objs.size+5
  .subst hb
   rw[G] at e
   cases e
   refine .inr ⟨mu _ _,by rw[aR,List.length_range];omega,(range (min xs.length ys.length)).map λj=>Value.ref (c.heap.objs.size+6+j),c',?_,hS⟩
   have:∀l:List Nat,Vals (l.map λj=>V.ref (c.heap.objs.size+6+j)) (l.map λj=>Value.ref (c.heap.objs.size+6+j)):=λl=>by
    induction l with
    |nil=>exact .nil
    |cons j r ih=>exact .cons rfl ih
   exact this _
  .by_cases N:c.heap.objs.size+6<=b/\b - (c.heap.objs.size+6)<min xs.length ys.length
   .obtain⟨g1,g2⟩:=N
    have eb:b=c.heap.objs.size+6+(b - (c.heap.objs.size+6)):=(Nat.add_sub_cancel' g1).symm
    obtain⟨x,y,u,v,g,i,ru,f,pr⟩:=pair _ g2
    rw[eb,J _ x y g i] at e
    cases e
    refine .inr ⟨dU (mu _ 6) g1,by show 2<=sizeLine;decide,[u,v],.cons ru (.cons f .nil),?_⟩
    rw[eb]
    exact⟨_,pr⟩
   .left
    have e':(if b=c.heap.objs.size+5 then some (HO.lst ((range (min xs.length ys.length)).map λj=>V.ref (c.heap.objs.size+6+j))) else
     if c.heap.objs.size+6<=b/\b - (c.heap.objs.size+6)<min xs.length ys.length then some (.tup [(xs[b - (c.heap.objs.size+6)]?).getD .ai,(ys[b - (c.heap.objs.size+6)]?).getD .ai]) else H1 b)=some o:=e
    rw[ay hb,ay N] at e'
    exact e'
 refine⟨.ref (c.heap.objs.size+5),H',k.many (h':=h') (t':=c.toks) kp hold M,rfl,q _ H' _ hold (hn 5) G (by rw[aR,List.length_range]) λj p e=> ?_⟩
 rw[bH] at e
 cases er:(range (min xs.length ys.length))[j]? with
 |none=>rw[er] at e;cases e
 |some j'=>
  rw[er] at e
  obtain⟨hj,L⟩:=bR.mp er
  rw[List.getElem_range] at L
  subst L
  cases e
  have hj':j<min xs.length ys.length:=by simpa using hj
  obtain⟨x,y,u,v,g,i,_⟩:=pair j hj'
  exact⟨_,x,y,rfl,g,i,J j x y g i⟩
end
inductive oE(K:Frag)(H:Hp):V->Value->Prop where
 |of {x:V} {t:Value} (h:gC K H x t):oE K H x t
 |tup {a:Addr} {xs:List V} (h:bu K H a xs):oE K H (.ref a) (.type "tuple")
 |lst {a:Addr} {xs:List V} (h:aS K H a xs):oE K H (.ref a) (.type "list")
theorem G2{X:Cx}:eU X (.builtin "isinstance") (λxs H Q=>∃x c t b,xs=[x,.ty c]/\oE X.K H x t/\kitOne X.K t (.type c)=some b/\Q (.bl b) H):=by
 intro pins s σ H xs j Q I r h;obtain⟨x,c,t,b,rfl,ty,e,q⟩:=h;obtain⟨u,k,rfl,d,f⟩:=vals2 r;cases f;cases ty with
 |of ty=>exact K3 I d ty e λa=>⟨.bl b,H,I.tok a,rfl,q⟩
 |tup g=>
  cases d;obtain⟨its,i,⟨o,h1,h2,_⟩,_⟩:=I.tuple g;exact gO kitx_tuple I.fc ⟨o,h1,h2⟩ e (λz=>nomatch z) λa=>⟨.bl b,H,I.tok a,rfl,q⟩
 |lst g=>
  cases d;obtain⟨its,i,pl,_⟩:=I.list g;obtain⟨o,h1,h2,_⟩:=pl.isList;exact gO kitx_list I.fc ⟨o,h1,h2⟩ e (λz=>nomatch z) λa=>⟨.bl b,H,I.tok a,rfl,q⟩
end L2
end
namespace MA
theorem BQ{a b:Int}(c:0<=a)(d:0<b):Int.gcd b (a%b)=Int.gcd a b:=by
 obtain⟨m,rfl⟩:=Int.eq_ofNat_of_zero_le c;obtain⟨n,rfl⟩:=Int.eq_ofNat_of_zero_le (eK d);rw[<-Int.natCast_emod,Int.gcd_natCast_natCast,Int.gcd_natCast_natCast,Nat.gcd_comm n (m%n),<-Nat.gcd_rec,Nat.gcd_comm]
def rf(x:Rat):Int×Int:=(x.num,(x.den:Int))
theorem cP(x:Rat):0<(rf x).2:=by
 have:=x.den_pos;show(0:Int)<(x.den:Int);omega
theorem gJ(x:Rat):((rf x).1:Rat)/((rf x).2:Rat)=x:=by
 show(x.num:Rat)/((x.den:Int):Rat)=x;rw[<-Rat.divInt_eq_div,Rat.divInt_ofNat,Rat.mkRat_self]
theorem Ou{x y:Rat}(h:rf x=rf y):x=y:=by rw[<-gJ x,<-gJ y,h]
theorem t_{a b:Int}(c:0<b):(a/(Int.gcd a b:Int),b/(Int.gcd a b:Int))=rf ((a:Rat)/(b:Rat)):=by
 rw[<-Rat.divInt_eq_div];unfold rf;have h1:=Rat.num_divInt a b;have h2:=Rat.den_divInt a b;rw[h1,h2];have d:b.sign=1:=Int.sign_eq_one_of_pos c;rw[d,ay (by omega),one_mul,Int.gcd_comm b a];congr 1;have:(b.natAbs:Int)=b:=by omega
 rw[Int.natCast_ediv,this]
inductive bY(N:Type) where
 |wt (n:N)
 |dF (l r:Int) (a b:bY N)
namespace bY
variable{N:Type}
def arms:bY N->Prop
 |wt _=>True
 |dF l r a b=>1<=l/\l<=9/\1<=r/\r<=9/\a.arms/\b.arms
def deep:bY N->Nat
 |wt _=>0
 |dF _ _ a b=>max a.deep b.deep+1
def names:bY N->List N
 |wt n=>[n]
 |dF _ _ a b=>a.names++b.names
def sh:bY N->Rat->List Rat
 |wt _,x=>[x]
 |dF l r a b,x=>a.sh (x*((r:Rat)/((l+r:Int):Rat)))++b.sh (x*((l:Rat)/((l+r:Int):Rat)))
theorem ly:∀(m:bY N),m.names.length<=2 ^ m.deep
 |wt _=>aI 1
 |dF _ _ a b=>by
  have h1:=ly a;have h2:=ly b;have c:2 ^ a.deep<=2 ^ max a.deep b.deep:=gy (by decide) (qy _ _);have d:2 ^ b.deep<=2 ^ max a.deep b.deep:=gy (by decide) (qz _ _);show List.length (_++_)<=2 ^ (max a.deep b.deep+1);rw[dI,Nat.pow_succ];omega
theorem CZ:∀(m:bY N),0<m.names.length
 |wt _=>Nat.zero_lt_one
 |dF _ _ a b=>by
  have h1:=CZ a;show 0<List.length (_++_);rw[dI];omega
end bY
theorem yt:rf 1=(1,1):=by rfl
theorem iY{a:Int}(h:a≠0):(a:Rat)≠0:=by
 intro z;exact h (by exact_mod_cast z)
theorem yr(t:Rat)(a b:Int):rf ((((rf t).1*a:Int):Rat)/(((rf t).2*b:Int):Rat))=rf (t*((a:Rat)/(b:Rat))):=by
 have h1:=iY (ji (cP t));congr 1;rw[jj,jj];have d:=gJ t;by_cases c:(b:Rat)=0
 .rw[c];grind
 .grind
theorem D4(t s:Rat):rf ((((rf t).1*(rf s).1:Int):Rat)/(((rf t).2*(rf s).2:Int):Rat))=rf (t*s):=by
 rw[yr,gJ]
theorem Ii{a b:Int}(c:0<b):(rf ((a:Rat)/(b:Rat))).2<=b:=by
 rw[<-t_ c];show b/(Int.gcd a b:Int)<=b;exact ediv_le_self _ (eK c)
theorem den_mul{t:Rat}{a b:Int}(c:0<b):(rf (t*((a:Rat)/(b:Rat)))).2<=(rf t).2*b:=by
 rw[<-yr];exact Ii (cJ (cP t) c)
theorem cT{x:Rat}(h:0<x):0<(rf x).1:=by
 have h1:0<=(rf x).1:=Rat.num_nonneg.mpr (Rat.le_of_lt h);have h2:(rf x).1≠0:=λz=>by
  have e:=gJ x;rw[z] at e;have a:x=0:=by rw[<-e,Rat.div_def];grind
  rw[a] at h;exact absurd h (by decide)
 omega
namespace bY
variable{N:Type}
theorem step_pos{l r:Int}{x:Rat}(hl:1<=l)(a:1<=r)(h:0<x):0<x*((r:Rat)/((l+r:Int):Rat)):=by
 have h1:(0:Rat)<(r:Rat):=by exact_mod_cast (show(0:Int)<r by omega)
 have h2:(0:Rat)<((l+r:Int):Rat):=by exact_mod_cast (show(0:Int)<l+r by omega)
 exact lY h (by rw[Rat.div_def];exact lY h1 (Rat.inv_pos.mpr h2))
theorem ue:∀(m:bY N) (x:Rat) (B:Int),m.arms->0<x->(rf x).2<=B->∀s∈m.sh x,0<s/\(rf s).2<=B*18 ^ m.deep
 |wt _,x,B,_,h1,h2,s,hs=>by
  have:s=x:=by simpa[sh] using hs
  subst this;exact⟨h1,by simpa[deep] using h2⟩
 |dF l r a b,x,B,h,h1,h2,s,hs=>by
  obtain⟨f,u,g,v,i,j⟩:=h;have n:0<B:=nN (cP x) h2;have o:(rf (x*((r:Rat)/((l+r:Int):Rat)))).2<=B*18:=by
   refine fj (den_mul (by omega)) ?_;exact dc h2 (by omega) (by omega) (by omega)
  have p:(rf (x*((l:Rat)/((l+r:Int):Rat)))).2<=B*18:=by
   refine fj (den_mul (by omega)) ?_;exact dc h2 (by omega) (by omega) (by omega)
  have q:0<x*((r:Rat)/((l+r:Int):Rat)):=step_pos f g h1;have p2:0<x*((l:Rat)/((l+r:Int):Rat)):=by
   have:=step_pos (l:=r) (r:=l) g f h1;rwa [add_comm r l] at this
  have up:∀k:Nat,k<=max a.deep b.deep->B*18*18 ^ k<=B*18 ^ (max a.deep b.deep+1):=λk t=>by
   rw[jI,mul_assoc,mul_comm 18 (18 ^ k)];refine qp ?_ (eK n);refine yZ ?_ (by decide);have:(18:Nat) ^ k<=18 ^ max a.deep b.deep:=gy (by decide) t;exact_mod_cast this
  have c:s∈a.sh (x*((r:Rat)/((l+r:Int):Rat)))\/s∈b.sh (x*((l:Rat)/((l+r:Int):Rat))):=ck.mp hs;rcases c with hs|hs
  .obtain⟨d,e⟩:=ue a _ _ i q o s hs
   exact⟨d,fj e (up _ (qy _ _))⟩
  .obtain⟨d,e⟩:=ue b _ _ j p2 p s hs
   exact⟨d,fj e (up _ (qz _ _))⟩
end bY
def eo{W N S:Type}[DecidableEq N][DecidableEq S](pre:List (W×N×S)):List (W×N×S)->Option (W×W)
 |[]=>none
 |(w,n,s)::r=>match pre.find? (λp=>decide (p.2.1=n)) with
  |some p=>if p.2.2=s then eo (pre++[(w,n,s)]) r else some (p.1,w)
  |none=>eo (pre++[(w,n,s)]) r
end MA
section
open PySem PySem.Spec PyProof.Rows
namespace L2
structure zo(P:Program)(w:World)(outer:List Env)(H H':Hp)(s s':Shared)(a:Addr)(C:Value):Prop where
 os:s'.os=s.os
 bare:AllBare s'.gens
 slot:∀b o,s.heap.get? b=some o->b∈frs outer->∃sl,s'.heap.get? b=some {o with slots:=sl}
 free:∀b o,s.heap.get? b=some o->H b=none->H' b=none
 tups:∀b xs,H b=some (.tup xs)->H' b=some (.tup xs)
 fQ:∀b o u,H b=some (.bz o u)->H' b=some (.bz o u)
 gv:∀b ps,H b=some (.iw ps)->∃more,H' b=some (.iw (ps++more))
 fl:∃(B:Heap) (a0:Value),(∀b o,s.heap.get? b=some o->H b=none->b∉frs outer->B.get? b=some o)/\(∀b o,s.heap.get? b=some o->b∉frs outer->∃o',B.get? b=some o')/\cy P w H' B/\Heap.FlyingW B outer a C a0 s'.heap
def aY(P:Program)(w:World):iC:=λouter H s E e s'=>∃(a:Addr) (C:Value) (H':Hp),e=.ref a/\zo P w outer H H' s s' a C/\E C none H'
section
variable{X:Cx}{pins:aQ}{σ:St}{H H':Hp}{s s':Shared}{a:Addr}{C:Value}
theorem BA(I:Inv X pins σ H s)(hex:X.ex=[])(os:s'.os=s.os)(bare:AllBare s'.gens)(slot:∀b o,s.heap.get? b=some o->b∈frs X.outer->∃i,s'.heap.get? b=some {o with slots:=i})
  (free:∀b o,s.heap.get? b=some o->H b=none->H' b=none)(tups:∀b xs,H b=some (.tup xs)->H' b=some (.tup xs))(fQ:∀b o u,H b=some (.bz o u)->H' b=some (.bz o u))
  (gv:∀b ps,H b=some (.iw ps)->∃d,H' b=some (.iw (ps++d)))
  (fl:∃(B:Heap) (j:Value),(∀b o,s.heap.get? b=some o->H b=none->b∉frs X.stack->B.get? b=some o)/\(∀b o,s.heap.get? b=some o->b∉frs X.stack->∃o',B.get? b=some o')/\cy X.prog X.w H' B/\Heap.FlyingW B X.outer a C j s'.heap):
  zo X.prog X.w X.outer X.H₀ H' X.s₀ s' a C:=by
 have nx:∀b:Addr,b∉X.ex:=λb=>by rw[hex];simp
 have g:∀b o,X.s₀.heap.get? b=some o->b∉frs X.outer->b∉frs X.stack:=λb o q c z=>by
  rcases cu.mp (I.nE b z) with e|e
  .exact absurd (dz (bh q) I.ok.above) (by rw[e];exact fV _)
  .exact c e
 refine⟨os.trans I.os,bare,λb o q c=> ?_,λb o q n=> ?_,λb xs q=>tups b xs (I.base.tups b xs q),λb o u q=>fQ b o u (I.base.fQ b o u q),λb ps q=> ?_,?_⟩
 .obtain⟨i,e⟩:=I.base.slot b o q (I.ok.mX b c) c (nx b)
  obtain⟨l,m⟩:=slot b _ e c
  exact⟨l,m⟩
 .obtain⟨i,e⟩:=I.base.any q n (nx b)
  exact free b _ e (I.base.free b o q n (nx b))
 .obtain⟨p,r⟩:=I.base.gv b ps q
  obtain⟨v,x⟩:=gv b _ r
  exact⟨p++v,by rw[x,Array.append_assoc]⟩
 .obtain⟨B,j,k,t,h,f⟩:=fl
  refine⟨B,j,λb o q n c=>k b o (I.base.keep b o q n c (nx b)) (I.base.free b o q n (nx b)) (g b o q c),λb o q c=> ?_,h,f⟩
  obtain⟨o',e⟩:=I.base.there b o q (nx b)
  exact t b o' e (g b o q c)
end
def Raises(X:Cx)(E:XK):Prop:=∀(pins:aQ) (σ:St) (H:Hp) (s:Shared) (e:Addr) (h':Heap) (C:Value) (args:List Value),Inv X pins σ H s->Heap.MadeExcOf s.heap h' e C args->E C none H->X.xe (.ref e) {s with heap:=h'}
section
variable{P:Program}{w:World}{K:Frag}{mg:aq}{base:Heap}{N:List Str}{qual:Str}{scope:Scope}{f:Addr}{cd:Value}{A:Around}{outer:List Env}{s:Shared}{H:Hp}{E:XK}
theorem BI{env:Env}{l:List Env}{b:Addr}(h:b∈frs l):b∈frs (env::l):=by
 obtain⟨e,a,c⟩:=qi.mp h;exact qi.mpr ⟨e,cj _ a,c⟩
theorem DV:Raises (bA (aY P w) P w K mg base N qual scope f cd A outer s H E) E:=by
 intro pins σ H1 j e h' C args I i k;have stk:=I.stack;have sG:∀b o,H1 b=some o->b∉frs (bA (aY P w) P w K mg base N qual scope f cd A outer s H E).stack:=λb o q z=>by
  rw[I.yD b z] at q;cases q
 have h:∀a∈(bA (aY P w) P w K mg base N qual scope f cd A outer s H E).stack,∀b,a.frame=some b->b∈frs (bA (aY P w) P w K mg base N qual scope f cd A outer s H E).stack:=λa l b d=>qi.mpr ⟨a,l,d⟩;show wpAny (model P w) _ (leaving _ (.ref e)) _ _ _;refine wpAny_leaves_madeW (base:=hideAll j.heap (frs (bA (aY P w) P w K mg base N qual scope f cd A outer s H E).stack)) I.ok.frames rfl (λb o q=>of_hideAll _ q) (PySem.W.funFrames_hide stk h) i λm t fl tup p up=>?_;refine⟨e,C,H1,rfl,BA I rfl rfl I.bare (λb o q d=>?_) (λ_ _ _ n=>n) (λ_ _ q=>q) (λ_ _ _ q=>q) (λ_ ps q=>⟨#[],by rw[q];simp⟩) ⟨_,_,λb o q n d=>hideAll_get _ q d,λb o q d=>⟨o,hideAll_get _ q d⟩,λb o q=>?_,fl⟩,k⟩
 .obtain⟨_,o',g,hd⟩:=stk.mem (BI (env:=envOfC qual scope s.heap.objs.size f cd) d)
  rw[q] at g;cases g;exact up b o (i.keeps b o q) hd
 .refine(I.hok b o q).stay (λc u hc r=>hideAll_get _ r ?_) (λ_ r=>r) λ_ _ r=>r
  rcases hc with z|z
  .rw[z];exact sG b o q
  .exact sG c _ z
theorem Dh:Passes (aY P w) (bA (aY P w) P w K mg base N qual scope f cd A outer s H E) E:=by
 intro pins σ H1 r e s' I h;obtain⟨a,C,H',rfl,F,j⟩:=h;obtain⟨B,k,l,th,hok,fl⟩:=F.fl;show wpAny (model P w) _ (leaving _ (.ref a)) _ _ _;refine wpAny_leaves_onW I.ok.frames rfl fl λm g up=>⟨a,C,H',rfl,BA I rfl F.os F.bare (λb o q n=>?_) F.free F.tups F.fQ F.gv ⟨B,k,l,th,hok,g⟩,j⟩;have c:=BI (env:=envOfC qual scope s.heap.objs.size f cd) n;obtain⟨t,e⟩:=F.slot b o q c;obtain⟨_,o',d,hd⟩:=fl.2.2.1.mem c;rw[e] at d;cases d;obtain⟨i,p⟩:=up b _ e hd;exact⟨i,p⟩
theorem dO:PassesOwn (model P w) (bA (aY P w) P w K mg base N qual scope f cd A outer s H E).A (bA (aY P w) P w K mg base N qual scope f cd A outer s H E).env (bA (aY P w) P w K mg base N qual scope f cd A outer s H E).xe:=
 PassesOwn.leaving
end
abbrev uA:List Value:=[.type "ValueError",.type "Exception",.type "BaseException",.type "object"]
theorem IS{K:Frag}{h:Heap}{C:Addr}{b:List Value}{newId:String}(X:K.In h)(q:excIn K C b newId=true):∃nm d N bs bm hdct sn sub ab col dd k0 k1 k2 k3 k5,∃mN:aq,
  h.get? C=some (excClassObj nm d C N bs bm hdct sn sub ab col dd k0 k1 k2 k3 k5 newId)/\h.Ns N mN/\mN "__init__"=none/\OwnTail h b bm:=by
 unfold excIn at q;split at q
 .rename_i dd cd f j
  split at q
  .rename_i m bm k0 k1 k2 k3 n k5 g i
   simp only[jK,beq_iff_eq,Bool.not_eq_true'] at q;obtain⟨⟨⟨⟨⟨rfl,rfl⟩,a⟩,k⟩,hok⟩,c⟩:=q;obtain⟨nm,bs,mro,ns,d,hd,sn,sub,ab,col,del⟩:=cd;dsimp only at g a hok c;subst g a;have e:f= #[k0,k1,k2,k3,some (.builtin n),k5]:=by
    obtain⟨l⟩:=f;simp only at i;rw[i]
   subst e;exact⟨nm,d,ns,bs,bm,hd,sn,sub,ab,col,dd,k0,k1,k2,k3,k5,_,X _ _ j,.of_isNs (PySem.W.isNs_of_in X hok),PySem.W.nsMap_none_of_in X hok c,PySem.W.tail_of_in X k⟩
  .cases q
 .cases q
section
variable{X:Cx}{E:XK}{x:Str}{C:Addr}{e:Expr}{t:TA}{np cpos pos:Pos}
def Qn(E:XK)(C:Addr)(t:TA):TS:=λ_ σ H=>t σ H λvs H1=>vs.length<=sizeLine/\E (.ref C) none H1
theorem NW(j:Raises X E)(hc:X.calm=true)(k:X.mg x=some (.ref C))(l:excIn X.K C uA "ValueError.__new__"=true)(m:PA X [e] t)(n:Gl X x:=by rfl)(b:(x==("__debug__":Str))=false:=by decide)
  (f:starEach [e] X.env=[(false,eval e X.env)]:=by rfl):PS X (.Raise (some (.Call (.Name x np) [e] [] cpos)) none pos) (Qn E C t):=by
 intro pins s σ H D I h;obtain⟨nm,o,N,bs,bm,hdct,sn,sub,ab,col,dd,k0,k1,k2,k3,k5,mN,c,p,d,g⟩:=IS I.mod.rW l;refine wpAny_Raise_call_subT (nm:=nm) (q:=o) (C:=C) (N:=N) (bs:=bs) (bm:=bm) (hdct:=hdct) (sn:=sn) (sub:=sub) (ab:=ab) (col:=col) (dd:=dd) (k0:=k0) (k1:=k1) (k2:=k2) (k3:=k3) (k5:=k5) (mN:=mN) PySem.F.excBase_ValueError (g.hasType (by decide+kernel)) (I.ok.hd hc) (by rw[f];rfl) d (xD I n k ⟨rfl,?_⟩ b);have h':=m cpos pins s σ H _ I h;rw[f] at h' ⊢;refine Calls.evalArgs_plain (aK h' λr w ⟨y,H1,a,u,i⟩=>?_);have hl:=u.length;exact⟨rfl,by show r.length<=sizeLine;rw[<-hl];exact i.1,a.bk _ _ c,p.keeps a.bk,g.keeps a.bk,λh2 z v=>j _ _ _ _ _ _ _ _ a v i.2⟩
end
def excAt(a:Addr)(C:Value)(h:Heap):Prop:=∃o,h.get? a=some o/\o.cls=C
abbrev IQ(a C:Addr):HO:=.ext (excAt a (.ref C))
section
variable{P:Program}{w:World}{K:Frag}{mg:aq}{base:Heap}
def aD(P:Program)(w:World)(K:Frag)(mg:aq)(base:Heap)(k:Nat)(x:Str)(ps:List Str)(sp:Sp):Prop:=
 ∃f fd,fW P w K mg base (aY P w) k f fd ps sp/\Binds K fd ps []/\keepIn K (.ref f)=true/\mg x=some (.ref f)
theorem TopD.fnX{x:Str}{st:Stmt}{N ps:List Str}{k:Nat}{sp:Sp}(T:TopD K mg x st ps)(S:bg N ps (aJ st))(len:∀c H Q E,sp c H Q E->c.length=ps.length)
  (d:∀(f:Addr) (a:Value) (A:Around) (outer:List Env) (s:Shared) (H:Hp) (c:List V) (Q:VK) (E:XK),dD k (A.deeper (envOfC x (aJ st) s.heap.objs.size f a))->sp c H Q E->
   ∃t,dB (bA (aY P w) P w K mg base N x (aJ st) f a A outer s H E) (fP st) t/\t {nx:=λ_ H'=>Q .ai H',rt:=Q} (start N c) H):aD P w K mg base (k+1) x ps sp:=by
 obtain⟨f,fd,F,b,m⟩:=T;have kp:=F.kp;obtain⟨j,l,kV,doc,pm,an,a,ct,h,rfl,lk,e⟩:=F.ex;exact⟨f,_,BB lk e S len λA outer s H c Q E i g=>d f a A outer s H c Q E i g,b,kp,m⟩
end
section
variable{X:Cx}{k:Nat}{x:Str}{ps:List Str}{sp:Sp}{e fe:Expr}{es:List Expr}{t:TA}{tf:TE}{p pos:Pos}{E:XK}
theorem M6(F:aD X.prog X.w X.K X.mg X.base k x ps sp)(d:dD k X.A)(g:Passes (aY X.prog X.w) X E)(h:PA X (e::es) t)(i:Gl X x:=by rfl)(a:(x==("__debug__":Str))=false:=by decide)
  (j:starEach (e::es) X.env=(false,eval e X.env)::starEach es X.env:=by rfl)(c:(backTo pos (starEach es X.env)).any (·.1)=false:=by rfl):
  PE X (.Call (.Name x p) (e::es) [] pos) (Fg sp [] E t):=by
 obtain⟨f,fd,F,b,kp,m⟩:=F;exact M4 F d i m kp b .nil g h a j c
end
end L2
namespace SS
theorem Dm{α:Type}:∀(xs:List α) (i:Nat) (x:α),xs[i]?=some x->xs.Perm (x::xs.eraseIdx i)
 |[],i,x,h=>by simp at h
 |y::r,0,x,h=>by
  simp at h;subst h;simp
 |y::r,i+1,x,h=>by
  simp only[zb] at h;have:=Dm r i x h;simp only[List.eraseIdx_cons_succ];exact(this.cons y).trans (Perm.swap x y _)
end SS
namespace L2
section
variable{X:Cx}
def strLt(a b:Str):Prop:=a.cps.toList<b.cps.toList
theorem FE:∀{out:List Value} {ss:List Str},StrsAre out ss->Vals (ss.map V.str) out
 |_,_,.nil=>.nil
 |_,_,.cons x t h=>.cons ⟨t,rfl⟩ (FE h)
end
section
variable{prog:Program}{w:World}{A:Around}{E:bw}{s:Shared}
theorem tuple_addW0(l b:Addr)(items a:Array Value)(n n2:Nat)(dd c:Option Addr)(f e:Array (Option Value))(i:items.isEmpty=true):
  Meets (Builtin.«tuple.__add__» ⟨[.ref l,.ref b],[]⟩) (λ_ R s=>s.heap.get? l=some {cls:=.type "tuple",dict:=dd,data:=.seq items n,slots:=f}/\s.heap.get? b=some {cls:=.type "tuple",dict:=c,data:=.seq a n2,slots:=e}/\R (.ok (.ret (Value.ref b))) {s with heap:=s.heap,toks:=s.toks}):=
 .of_wp λprog w A R s h=>by obtain⟨k,g,d,m,os⟩:=s;obtain⟨hl,j,h⟩:=h;have f1:=AutoSeq1.idx_int;have f2:=AutoSeq1.sub_tuple_tuple;have o:=AutoSeq1.sub_list_list;have f4:=AutoSeq1.sub_tuple_list;have p:=AutoSeq1.sub_list_tuple;wp_walk using wpAny_loadPart' hl,wpAny_loadPart' j;exact⟨_,rfl,h⟩
end
section
variable{X:Cx}
def Og(K:Frag):R2:=λx y H Q=>∃a b ys,x=.ref a/\y=.ref b/\bu K H a []/\bu K H b ys/\Q (.ref b) H
theorem MF:a_ X (binaryOp .Add) (Og X.K):=by
 intro pins s σ H x y v u Q I k l h;obtain⟨a,b,ys,rfl,rfl,m,o,q⟩:=h;cases k;cases l;obtain⟨its,p,r,_⟩:=I.tuple m;obtain⟨c,w,p2,_⟩:=I.tuple o;cases p;obtain⟨⟨cls,dd,data,t⟩,i,hc,n,hd⟩:=id r;obtain⟨⟨j,f,data2,g⟩,d,e,n2,hd2⟩:=id p2;simp only at hc hd e hd2;subst hc hd e hd2;exact concat_meets ⟨_,i,rfl⟩ ⟨_,d,rfl⟩ noFill_tuple_add seq_tuple_add slot_tuple_add entry_tuple_add (args_tuple_add_2 _ _)
  (tuple_addW0 a b #[] c.toArray n n2 dd f t g rfl) ⟨i,d,⟨.ref b,H,I,rfl,q⟩⟩
def DG(K:Frag):R2:=λx y H Q=>∃a b xs ys,x=.ref a/\y=.ref b/\bu K H a xs/\bu K H b ys/\xs.length+ys.length<=sizeLine/\
 (xs=[]->Q (.ref b) H)/\(xs≠[]->ys=[]->Q (.ref a) H)/\(xs≠[]->ys≠[]->∀p,H p=none->Q (.ref p) (upd H p (.tup (xs++ys))))
theorem MD:a_ X (binaryOp .Add) (DG X.K):=by
 intro pins s σ H x y v u Q I d e h;obtain⟨a,b,xs,ys,rfl,rfl,f,g,hz,i,j,k⟩:=h;by_cases c:xs=[]
 .subst c
  exact MF pins s σ H _ _ v u Q I d e ⟨a,b,ys,rfl,rfl,f,g,i rfl⟩
 .exact ME pins s σ H _ _ v u Q I d e ⟨a,b,xs,ys,rfl,rfl,f,g,c,hz,j c,k c⟩
end
end L2
namespace DP
theorem L0:typeLookup (.type "list") "keys"=pure none:=by rw[uG,uQ];kernel_rfl
theorem L1:typeLookup (.type "tuple") "keys"=pure none:=by rw[uG,uQ];kernel_rfl
section
variable{prog:Program}{w:World}{A:Around}{E:bw}{s:Shared}
theorem Mn{a:Addr}{xs:Array Value}{k:Nat}{Q:Option Value->Shared->Prop}(i:s.heap.get? a=some {cls:=.type "list",data:=.seq xs k})(m:A.handled=none)
  (h:∀h' j,(∀b o,s.heap.get? b=some o->h'.get? b=some o)->Q none {s with heap:=h',toks:=j}):wpAny (model prog w) A (getAttr? (.ref a) "keys") Q E s:=by
 obtain⟨n,g,d,j,os⟩:=s;have l:∀c,(⟨n,g,d,c,os⟩:Shared).TypeIs (.ref a) "list":=λ_=>⟨_,i,rfl⟩;have f1:=sub_AttributeError;have p:=zf.lookup;have f4:=zf.bind (.ref a);have q:=am_list_getattr_none;unfold getAttr? getAttrBy? getAttrBy;repeat (any_goals (first|assumption|exact l _|((with_reducible show wpAny _ _ (call (Value.builtin "list.__getattribute__") _ _) _ _ _);refine ku zf (l _) am_entry_list_getattribute (PySem.F.args_list_getattribute_2 _ _) (meets_getattribute_miss_list a xs k #[] "keys" _ L0 (by decide) (by decide)) ⟨i,m,λh' c e f=>?_⟩)|wp_step))
 obtain⟨t',r,t⟩:=f.there;show wpAny _ _ (getattributeRaised _ _ _ _ _ _ _) _ _ _;unfold getattributeRaised;repeat (any_goals (first|assumption|wp_step))
 exact h _ _ f.keeps
theorem Mp{a:Addr}{xs:Array Value}{k:Nat}{Q:Option Value->Shared->Prop}(i:s.heap.get? a=some {cls:=.type "tuple",data:=.seq xs k})(m:A.handled=none)
  (h:∀h' j,(∀b o,s.heap.get? b=some o->h'.get? b=some o)->Q none {s with heap:=h',toks:=j}):wpAny (model prog w) A (getAttr? (.ref a) "keys") Q E s:=by
 obtain⟨n,g,d,j,os⟩:=s;have l:∀c,(⟨n,g,d,c,os⟩:Shared).TypeIs (.ref a) "tuple":=λ_=>⟨_,i,rfl⟩;have f1:=sub_AttributeError;have p:=zg.lookup;have f4:=zg.bind (.ref a);have q:=am_tuple_getattr_none;unfold getAttr? getAttrBy? getAttrBy;repeat (any_goals (first|assumption|exact l _|((with_reducible show wpAny _ _ (call (Value.builtin "tuple.__getattribute__") _ _) _ _ _);refine ku zg (l _) am_entry_tuple_getattribute (PySem.F.args_tuple_getattribute_2 _ _) (meets_getattribute_miss_tuple a xs k #[] "keys" _ L1 (by decide) (by decide)) ⟨i,m,λh' c e f=>?_⟩)|wp_step))
 obtain⟨t',r,t⟩:=f.there;show wpAny _ _ (getattributeRaised _ _ _ _ _ _ _) _ _ _;unfold getattributeRaised;repeat (any_goals (first|assumption|wp_step))
 exact h _ _ f.keeps
end
theorem Bs:entryFor table "dict.update.loop"=some Builtin.«dict.update.loop»:=entryFor_of_tree (by kernel_rfl)
theorem pT:plainId "dict.update.loop"=true:=by decide+kernel
section
variable{prog:Program}{w:World}{A:Around}{R:Result->Shared->Prop}{I:Addr}{fp wr:List Addr}{n:Nat}{P:Nat->Value->Prop}{St:Nat->Heap->Prop}
theorem loop(W:Walks prog w A.in1 I fp wr n P St)(D:Addr)(p:D∉fp)(h₀:Heap)(key:Nat->L2.Key)(E q:Nat->Value)
  (u:∀i v,i<n->P i v->∃t,v=.ref t/\t≠D/\t∉wr/\IsTup h₀ t #[E i,q i])(x:∀i,i<n->(L2.cO prog w).is (key i) (E i)=true)(hn:n<=sizeLine):
  ∀(k i:Nat) (s:Shared) (kvs:List (L2.Key×Value)),n - i=k->i<=n->St i s.heap->s.heap.DictOf (L2.cO prog w) D kvs->kvs.length<=i->(∀b o,b≠D->b∉wr->h₀.get? b=some o->s.heap.get? b=some o)->
   (∀h' y,h'.DictOf (L2.cO prog w) D (((range n).drop i).foldl (λacc j=>stored acc (key j) (q j)) kvs)->(∀b o,b≠D->b∉wr->s.heap.get? b=some o->h'.get? b=some o)->R (.ok (.ret .none)) {s with heap:=h',toks:=y})->
   codeAny (model prog w) A (.builtin "dict.update.loop" ⟨[.ref D,.ref I,rawInt (i:Nat),.none],[]⟩) R s:=by
 have B:D∉wr:=λh=>p (W.sub _ h);intro k;induction k with
 |zero=>
  intro i s kvs Z hi g G hl H J;have K:i=n:=by omega
  subst K;refine uR Bs ?_;rw[uT pT _];show wpAny _ A.in1 (pyNext (.ref I)>>=_) _ _ s;refine aC (W.done s _ _ g λh' y l=>?_);show wpAny _ A.in1 (Builtin.Dict.addKeywords D []>>=_) _ _ _;refine aC (aX (aX (J h' y ?_ λb o d a e=>l b o a e)));rw[qq (by simp),List.foldl_nil];obtain⟨o,es,ep,L,r⟩:=G;exact⟨o,es,ep,l D o B L,r⟩
 |succ k ih=>
  intro i s kvs Z hi g G hl H J;have c:i<n:=by omega
  refine uR Bs ?_;rw[uT pT _];show wpAny _ A.in1 (pyNext (.ref I)>>=_) _ _ s;refine aC (W.item i s _ _ c g λv h1 y hP C l=>?_);obtain⟨t,rfl,tD,tw,ht⟩:=u i v c hP;obtain⟨F,M,N,nt,O⟩:=ht;have f:h1.get? t=some F:=l t F tw (H t F tD tw M);refine aC (ko ?_);refine aC (wpAny_tryCatch ?_);unfold Builtin.Dict.pairItems;refine aC (qo (T:="tuple") ⟨F,f,N⟩ ?_);rw[aA (by decide)];refine aC (uI f O (aX ?_));show wpAny _ _ (holding [E i,q i] (dictSet D (E i) (q i))) _ _ _;have Q:h1.DictOf (L2.cO prog w) D kvs:=by
   obtain⟨o,es,ep,L,r⟩:=G;exact⟨o,es,ep,l D o B L,r⟩
  refine ko (wpAny_dictSet_pairs (s:={s with heap:=h1,toks:=y}) (x i c) Q (λh2 S m=>?_) (by omega));have U:St (i+1) h2:=W.frame _ _ _ C λb d o e=>(m.2 b λz=>p (z▸d)).trans e;have e1:((i:Nat):Int)+1=((i+1:Nat):Int):=by omega
  refine aX ⟨ql pT _,?_⟩;show codeAny _ _ (.builtin "dict.update.loop" ⟨[.ref D,.ref I,rawInt (((i:Nat):Int)+1),.none],[]⟩) _ _;rw[e1];refine ih (i+1) _ _ (by omega) c U S ?_ (λb o d a e=>(m.2 b d).trans (l b o a (H b o d a e))) λh' V X Y=>?_
  .have:=stored_length_le kvs (key i) (q i)
   omega
  .refine J h' V ?_ λb o d a e=>Y b o d a ((m.2 b d).trans (l b o a e))
   have e2:(range n).drop i=i::(range n).drop (i+1):=by
    rw[kB (by simpa using c)];simp
   rw[e2,iA];exact X
end
end DP
namespace L2
def putAll(ps:List (Key×V)):List (Key×V):=ps.foldl (λacc p=>putK acc p.1 p.2) []
theorem N9(ps acc:List (Key×V)):(ps.foldl (λacc p=>putK acc p.1 p.2) acc).length<=acc.length+ps.length:=by
 induction ps generalizing acc with
 |nil=>simp
 |cons p r a=>
  rw[iA,jl];refine dU (a _) ?_;have:(putK acc p.1 p.2).length<=acc.length+1:=by
   unfold putK;split
   .rw[aR];omega
   .rw[dI];simp
  omega
theorem Lv{ps:List (Key×V)}{n:Nat}{key:Nat->Key}{a:Nat->Value}(b:n=ps.length)(h:∀i p,ps[i]?=some p->key i=p.1/\RelV p.2 (a i)):KV (putAll ps) ((range n).foldl (λacc j=>stored acc (key j) (a j)) []):=by
 subst b;unfold putAll;have gen:∀(m:Nat),m<=ps.length->KV ((ps.take m).foldl (λacc p=>putK acc p.1 p.2) []) ((range m).foldl (λacc j=>stored acc (key j) (a j)) []):=λm=>by
  induction m with
  |zero=>intro _;simp;exact .nil
  |succ m c=>
   intro d;have e:ps[m]?=some (ps[m]'(by omega)):=bO (by omega);obtain⟨h1,h2⟩:=h m _ e;rw[List.take_add_one,e,List.range_succ,l_,l_];simp only[Option.toList_some,iA,List.foldl_nil];rw[h1];exact KV.put (c (by omega)) _ h2
 have:=gen ps.length (aI _);rwa [take_length] at this
section
variable{X:Cx}
def Pairs(K:Frag)(H:Hp)(ts:List V)(ps:List (Key×V)):Prop:=ts.length=ps.length/\∀(i:Nat) (x:V) (p:Key×V),ts[i]?=some x->ps[i]?=some p->∃t,x=.ref t/\bu K H t [kV p.1,p.2]
theorem An(hc:X.calm=true):eU X (.type "dict") (λxs H Q=>∃(p:Addr) (ts:List V) (ps:List (Key×V)),xs=[.ref p]/\(H p=some (.lst ts)\/H p=some (.tup ts))/\Pairs X.K H ts ps/\ps.length<=1000/\∀d,H d=none->Q (.ref d) (upd H d (.dK (putAll ps)))):=by
 intro pins s σ H xs us Q I r h;obtain⟨p,ts,ps,rfl,hp,hP,hl,q⟩:=h;obtain⟨u,rfl,Z⟩:=vals1 r;cases Z;have hh:=I.ok.hd hc;obtain⟨its,hv,D⟩:∃its:List Value,Vals ts its/\((∃n,s.heap.get? p=some {cls:=.type "list",data:=.seq its.toArray n})\/∃n,s.heap.get? p=some {cls:=.type "tuple",data:=.seq its.toArray n}):=by
  rcases hp with hp|hp
  .obtain⟨_,its,n,y,e⟩:=(show bQ X.prog X.w H s.heap p (.lst ts) from I.hok p _ hp)
   exact⟨its,y,.inl ⟨n,e⟩⟩
  .obtain⟨its,n,y,e,_⟩:=I.QJ hp
   exact⟨its,y,.inr ⟨n,e⟩⟩
 have l:its.length=ps.length:=by rw[<-hv.length];exact hP.1
 have NG:p<s.heap.objs.size:=by rcases D with⟨_,e⟩|⟨_,e⟩<;>exact bh e
 have pair:∀i,i<ps.length->∃t k v,its[i]?=some (.ref t)/\IsTup s.heap t #[k,v]/\∃p,ps[i]?=some p/\RelV (kV p.1) k/\RelV p.2 v:=λi hi=>by
  have z:ps[i]?=some (ps[i]'hi):=bO hi;have B:ts[i]?=some (ts[i]'(by rw[hP.1];exact hi)):=bO _;obtain⟨t,ex,hq⟩:=hP.2 i _ _ B z;obtain⟨u,hu,Z⟩:=hv.get B;rw[ex] at Z;cases Z;obtain⟨its2,r2,p2,_⟩:=I.tuple hq;obtain⟨k,v,rfl,M,y⟩:=vals2 r2;exact⟨t,k,v,hu,p2,_,z,M,y⟩
 let O:Nat->Value:=λi=>match its[i]? with|some (.ref t)=>(match s.heap.get? t with|some o=>(match o.data with|.seq a _=>a.getD 0 .none|_=>.none)|none=>.none)|_=>.none
 let N:Nat->Value:=λi=>match its[i]? with|some (.ref t)=>(match s.heap.get? t with|some o=>(match o.data with|.seq a _=>a.getD 1 .none|_=>.none)|none=>.none)|_=>.none
 let key:Nat->Key:=λi=>((ps[i]?).map (·.1)).getD (.inl 0);have g:∀i,i<ps.length->∃t p,its[i]?=some (.ref t)/\IsTup s.heap t #[O i,N i]/\ps[i]?=some p/\key i=p.1/\RelV (kV p.1) (O i)/\RelV p.2 (N i):=λi hi=>by
  obtain⟨t,k,v,z,J,pp,B,M,y⟩:=pair i hi;obtain⟨o,E,hcl,n,hd⟩:=id J;have P:O i=k:=by simp only[O,z,E,hd];rfl
  have ev:N i=v:=by simp only[N,z,E,hd];rfl
  have ey:key i=pp.1:=by simp only[key,B];rfl
  rw[P,ev,ey];exact⟨t,pp,z,J,B,rfl,M,y⟩
 have hsz:ps.length<=sizeLine:=dU hl (by decide);refine callType_codes (Q₁:=λobj G=>obj=.ref s.heap.objs.size/\G={s with heap:=s.heap.push {cls:=.type "dict",data:=.dict #[]}}) PySem.F.kt_called_dict (PySem.F.kt_typeCall_dict_1 _) PySem.F.entry_dict_init (kt_code_dict_new _ ⟨rfl,rfl⟩) ?_;rintro obj G ⟨rfl,rfl⟩;have c:(s.heap.push {cls:=.type "dict",data:=.dict #[]}).DictOf (cO X.prog X.w) s.heap.objs.size []:=DictOf.new s.heap;refine⟨c.typeIs,PySem.F.args_dict_init_2 _ _,?_⟩;unfold Builtin.«dict.__init__»;refine aC ?_;unfold Builtin.Dict.selfAndRest;refine aC (wpAny_notOrdered_dict c.typeIs ?_);show wpAny _ _ (pure (s.heap.objs.size,[Value.ref p])) _ _ _;refine aX ?_;show wpAny _ _ (Builtin.Dict.updateFrom "dict.__init__" s.heap.objs.size (.ref p) [] .none) _ _ _;unfold Builtin.Dict.updateFrom;have k0:∀b o,s.heap.get? b=some o->(s.heap.push {cls:=.type "dict",data:=.dict #[]}).get? b=some o:=λb o e=>bP _ e;have pD:p≠s.heap.objs.size:=cU NG;have go:∀(h1:Heap) (tk:Nat) (R:Addr) (fp:List Addr) (St:Nat->Heap->Prop),(∀b o,(s.heap.push {cls:=.type "dict",data:=.dict #[]}).get? b=some o->h1.get? b=some o)->s.heap.objs.size<R->
   Walks X.prog X.w X.A.in1.in1 R fp [R] its.length (λi v=>its.toArray[i]?=some v) St->St 0 h1->s.heap.objs.size∉fp->
   codeAny (model X.prog X.w) X.A.in1 (.builtin "dict.update.loop" ⟨[.ref s.heap.objs.size,.ref R,rawInt 0,.none],[]⟩) (wants (λr S=>r=.none/\EP X pins σ Q (.ref s.heap.objs.size) S) X.xe) {s with heap:=h1,toks:=tk}:=by
  intro h1 tk R fp St k1 hI W PN hDf;have J3:h1.DictOf (cO X.prog X.w) s.heap.objs.size []:=by
   obtain⟨o,es,ep,E,r⟩:=c;exact⟨o,es,ep,k1 _ o E,r⟩
  refine DP.loop W s.heap.objs.size hDf s.heap key O N (λi v hi hv'=>?_) (λi hi=>?_) (by rw[l];exact hsz) its.length 0 _ [] rfl (cV _) PN J3 (cV _) (λb o _ _ e=>k1 b o (k0 b o e)) λh2 QI U k2=>?_
  .obtain⟨t,pp,z,J,_⟩:=g i (by rw[<-l];exact hi)
   have e:its[i]?=some v:=by simpa using hv'
   rw[z] at e;cases e;have Y:t<s.heap.objs.size:=J.lt;exact⟨t,rfl,cU Y,by simp only[b_];exact cU (lt_trans Y hI),J⟩
  .obtain⟨t,pp,z,J,B,P,M,y⟩:=g i (by rw[<-l];exact hi)
   rw[P];exact kY M
  .have hn:H s.heap.objs.size=none:=I.hok.fresh (aI _)
   have Lu:∀b o,s.heap.get? b=some o->h2.get? b=some o:=λb o e=>by
    have hb:b<s.heap.objs.size:=bh e;exact k2 b o (cU hb) (by simp only[b_];exact cU (lt_trans hb hI)) (k1 b o (k0 b o e))
   rw[List.drop_zero,l] at U;have hkv:KV (putAll ps) ((range ps.length).foldl (λacc j=>stored acc (key j) (N j)) []):=Lv rfl λi pp e=>by
    obtain⟨t,pp',z,J,B,P,M,y⟩:=g i (bR.mp e).1;rw[e] at B;cases B;exact⟨P,y⟩
   have hns:(s.heap.objs.size==sysModules)=false:=beq_false_of_ne (lQ I.big);refine⟨rfl,.ref s.heap.objs.size,_,I.laid (t':=QI) (o:=.dK (putAll ps)) Lu (aI _) ⟨?_,hns,_,hkv,U⟩,rfl,q _ hn⟩;have:=N9 ps [];unfold putAll;simp only[length_nil,zero_add] at this;omega
 rcases D with⟨n,e⟩|⟨n,e⟩
 .have C:=k0 _ _ e
  refine aC (qo (T:="list") ⟨_,C,rfl⟩ ?_);rw[aA (by decide)];refine aC (DP.Mn (s:={s with heap:=s.heap.push {cls:=.type "dict",data:=.dict #[]}}) C hh λh1 L k1=>?_);rw[aA (show(none:Option Value).isNone=true from rfl)];refine aC (wpAny_rule ?_);have m:h1.IsList p its.toArray:=⟨_,k1 _ _ C,rfl,n,rfl⟩;have x:p<h1.objs.size:=bh (k1 _ _ C);have f:s.heap.objs.size<h1.objs.size:=by obtain⟨o,_,_,E,_⟩:=c;exact bh (k1 _ _ E)
  refine aC (wpAny_pyIter_list (s:={s with heap:=h1,toks:=L}) m ?_);have W:=Walks.list (prog:=X.prog) (w:=X.w) (A:=X.A.in1.in1) hh h1.objs.size p (cU x) its.toArray;rw[cA] at W;refine aX ⟨ql DP.pT _,go _ _ _ _ _ (λb o q=>bP _ (k1 b o q)) f W ⟨⟨_,eT _ rfl,rfl,rfl⟩,m.push _⟩ ?_⟩;simp only[cu,gK,gM,not_or];exact⟨cU f,Ne.symm pD⟩
 .have C:=k0 _ _ e
  refine aC (qo (T:="tuple") ⟨_,C,rfl⟩ ?_);rw[aA (by decide)];refine aC (DP.Mp (s:={s with heap:=s.heap.push {cls:=.type "dict",data:=.dict #[]}}) C hh λh1 L k1=>?_);rw[aA (show(none:Option Value).isNone=true from rfl)];refine aC (wpAny_rule ?_);have m:h1.IsTuple p its.toArray:=⟨_,k1 _ _ C,rfl,n,rfl⟩;have x:p<h1.objs.size:=bh (k1 _ _ C);have f:s.heap.objs.size<h1.objs.size:=by obtain⟨o,_,_,E,_⟩:=c;exact bh (k1 _ _ E)
  refine aC (wpAny_pyIter_tuple (s:={s with heap:=h1,toks:=L}) m ?_);have W:=Walks.tuple (prog:=X.prog) (w:=X.w) (A:=X.A.in1.in1) hh h1.objs.size p (cU x) its.toArray;rw[cA] at W;refine aX ⟨ql DP.pT _,go _ _ _ _ _ (λb o q=>bP _ (k1 b o q)) f W ⟨⟨_,eT _ rfl,rfl,rfl⟩,m.push _⟩ ?_⟩;simp only[cu,gK,gM,not_or];exact⟨cU f,Ne.symm pD⟩
end
theorem Fe:∀{a:List Value} {ss:List Str},a.length=ss.length->(∀(i:Nat) v x,a[i]?=some v->ss[i]?=some x->∃t,v=Value.str x t)->StrsAre a ss
 |[],[],_,_=>.nil
 |v::a,x::ss,hl,h=>by
  obtain⟨t,rfl⟩:=h 0 v x rfl rfl;exact .cons x t (Fe (by simpa using hl) λi b c d e=>h (i+1) b c (by simpa using d) (by simpa using e))
theorem KV.at{kvs:List (Key×V)}{a:List (Key×Value)}(r:KV kvs a):∀{i:Nat} {q:Key×Value},a[i]?=some q->∃p,kvs[i]?=some p/\p.1=q.1/\RelV p.2 q.2:=by
 induction r with
 |nil=>intro i q h;simp at h
 |cons h1 h2 b=>
  intro i q h;cases i with
  |zero=>simp at h;subst h;exact⟨_,rfl,h1⟩
  |succ i=>exact b (by simpa using h)
theorem KV.len{kvs:List (Key×V)}{a:List (Key×Value)}(r:KV kvs a):kvs.length=a.length:=by
 induction r with
 |nil=>rfl
 |cons h1 h2 b=>simp[b]
section
variable{X:Cx}
theorem Inv.LX{pins:aQ}{σ:St}{H H':Hp}{s:Shared}{h':Heap}{t':Nat}(I:Inv X pins σ H s)(kp:∀b o,s.heap.get? b=some o->h'.get? b=some o)(d:jq H H')
  (a:∀b o,H' b=some o->H b=some o\/((∀u,s.heap.get? b≠some u)/\bQ X.prog X.w H' h' b o)):Inv X pins σ H' {s with heap:=h',toks:=t'}:=by
 refine I.un (h':=h') (t':=t') ⟨λb o q _ _ _=>kp b o q,λb o q _ _ _=>⟨o.slots,kp b o q⟩,λb o q n _=>?_,λb o q _=>⟨o,kp b o q⟩,λb xs q=>d _ _ q,λb o u q=>d _ _ q,λb ps q=>⟨#[],by rw[d _ _ q];simp⟩⟩ λb o q=>?_
 .cases e:H' b with
  |none=>rfl
  |some u=>
   rcases a b u e with z|⟨z,_⟩
   .rw[n] at z;cases z
   .exact absurd q (z _)
 .rcases a b o q with z|⟨_,z⟩
  .exact(I.hok b o z).stay (λc v _ r=>kp c v r) (λc r=>d _ _ r) λc xs r=>d _ _ r
  .exact z
end
end L2
namespace DP
open L2
inductive D where
 |ai|bl (b:Bool)|int (i:Int)|str (x:Str)|tup (xs:List D)|ref (r:Nat)|fl (xs:List Int)|exc (c:Str)
inductive C where
 |lst (xs:List D)|dct (kvs:List (Key×D))|bx (o:Obj) (kvs:List (Key×D))|ins (cl:Str) (fs:List (Str×D))
abbrev Ar:=List C
abbrev Io:=Nat->Addr
section
variable(mg:aq)
mutual
def RV(ι:Io)(n:Nat)(H:Hp):D->V->Prop
 |.ai,v=>v=.ai
 |.bl b,v=>v=.bl b
 |.int i,v=>v=.int i
 |.str x,v=>v=.str x
 |.tup ds,v=>∃a xs,v=.ref a/\H a=some (.tup xs)/\aj ι n H ds xs
 |.ref r,v=>r<n/\v=.ref (ι r)
 |.fl ns,v=>∃a o,v=.ref a/\H a=some (.bz o (.lst (ns.map V.int)))
 |.exc c,v=>∃a C,v=.ref a/\mg c=some (.ref C)/\H a=some (IQ a C)
def aj(ι:Io)(n:Nat)(H:Hp):List D->List V->Prop
 |[],xs=>xs=[]
 |d::ds,xs=>∃x r,xs=x::r/\RV ι n H d x/\aj ι n H ds r
end
def RK(ι:Io)(n:Nat)(H:Hp):List (Key×D)->List (Key×V)->Prop
 |[],xs=>xs=[]
 |p::ds,xs=>∃x r,xs=(p.1,x)::r/\RV mg ι n H p.2 x/\RK ι n H ds r
def RF(ι:Io)(n:Nat)(H:Hp):List (Str×D)->List (Str×V)->Prop
 |[],xs=>xs=[]
 |p::ds,xs=>∃x r,xs=(p.1,x)::r/\RV mg ι n H p.2 x/\RF ι n H ds r
def CO(ι:Io)(n:Nat)(H:Hp)(a:Addr):C->Prop
 |.lst ds=>∃xs,H a=some (.lst xs)/\aj mg ι n H ds xs
 |.dct kvs=>∃xs,H a=some (.dK xs)/\RK mg ι n H kvs xs
 |.bx o kvs=>∃xs,H a=some (.bz o (.dK xs))/\RK mg ι n H kvs xs
 |.ins cl fs=>∃Cc dx xs,mg cl=some (.ref Cc)/\H a=some (.ins Cc dx xs)/\RF mg ι n H fs xs
structure RA(ι:Io)(H:Hp)(A:Ar):Prop where
 gj:∀r c,A[r]? =some c->CO mg ι A.length H (ι r) c
 inj:∀r q,r<A.length->q<A.length->ι r=ι q->r=q
end
def ia:HO->Bool
 |.lst _|.dK _|.bz _ (.dK _)|.ins _ _ _=>true
 |_=>false
structure Ext(A:Ar)(ι:Io)(H:Hp)(A':Ar)(ι':Io)(H':Hp):Prop where
 len:A.length<=A'.length
 ag:∀r,r<A.length->ι' r=ι r
 im:∀r,r<A.length->∃o,H (ι r)=some o/\ia o=true
 mo:∀b o,H b=some o->(∀r,r<A.length->ι r≠b)->H' b=some o
 nw:∀r,A.length<=r->r<A'.length->H (ι' r)=none
 al:∀b o,H b=some o->∃o',H' b=some o'
theorem Ext.fix{A A':Ar}{ι ι':Io}{H H':Hp}(e:Ext A ι H A' ι' H'){b:Addr}{o:HO}(a:ia o=false)(h:H b=some o):H' b=some o:=e.mo b o h λr c z=>by
 obtain⟨u,h1,h2⟩:=e.im r c;rw[z,h] at h1;cases h1;rw[a] at h2;cases h2
theorem Ext.trans{A f g:Ar}{ι e d:Io}{H H1 H2:Hp}(a:Ext A ι H f e H1)(b:Ext f e H1 g d H2):Ext A ι H g d H2 where
 len:=dU a.len b.len
 ag:=λr h=>(b.ag r (dz h a.len)).trans (a.ag r h)
 im:=a.im
 mo:=λc o h i=>b.mo c o (a.mo c o h i) λr j z=>by
  by_cases hl:r<A.length
  .rw[a.ag r hl] at z;exact i r hl z
  .have:=a.nw r (by omega) j
   rw[z,h] at this;cases this
 nw:=λr h1 h2=>by
  by_cases hl:r<f.length
  .rw[b.ag r hl];exact a.nw r h1 hl
  .have n1:=b.nw r (by omega) h2
   cases q:H (d r) with
   |none=>rfl
   |some o=>
    obtain⟨o',h'⟩:=a.al _ o q
    rw[h'] at n1;cases n1
 al:=λc o h=>by
  obtain⟨k,h1⟩:=a.al c o h
  exact b.al c k h1
section
variable{mg:aq}{A A':Ar}{ι ι':Io}{H H':Hp}
section
variable{n n':Nat}
mutual
theorem RV.ag(k:n<=n')(e:∀r,r<n->ι' r=ι r)(i:∀b o,ia o=false->H b=some o->H' b=some o):∀(d:D) (v:V),RV mg ι n H d v->RV mg ι' n' H' d v
 |.ai,_,h=>h
 |.bl _,_,h=>h
 |.int _,_,h=>h
 |.str _,_,h=>h
 |.tup ds,v,h=>by
  obtain⟨a,xs,f,g,j⟩:=h;exact⟨a,xs,f,i _ _ rfl g,aj.ag k e i ds xs j⟩
 |.ref r,v,h=>⟨dz h.1 k,by rw[e r h.1];exact h.2⟩
 |.fl ns,v,h=>by
  obtain⟨a,o,f,g⟩:=h;exact⟨a,o,f,i _ _ rfl g⟩
 |.exc c,v,h=>by
  obtain⟨a,C,f,g,j⟩:=h;exact⟨a,C,f,g,i _ _ rfl j⟩
theorem aj.ag(e:n<=n')(a:∀r,r<n->ι' r=ι r)(f:∀b o,ia o=false->H b=some o->H' b=some o):∀(ds:List D) (c:List V),aj mg ι n H ds c->aj mg ι' n' H' ds c
 |[],_,h=>h
 |d::ds,c,h=>by
  obtain⟨x,r,g,i,j⟩:=h;exact⟨x,r,g,RV.ag e a f d x i,aj.ag e a f ds r j⟩
end
theorem RK.ag(e:n<=n')(a:∀r,r<n->ι' r=ι r)(f:∀b o,ia o=false->H b=some o->H' b=some o):∀(ds:List (Key×D)) (c:List (Key×V)),RK mg ι n H ds c->RK mg ι' n' H' ds c
 |[],_,h=>h
 |d::ds,c,h=>by
  obtain⟨x,r,g,i,j⟩:=h;exact⟨x,r,g,RV.ag e a f _ x i,RK.ag e a f ds r j⟩
theorem RF.ag(e:n<=n')(a:∀r,r<n->ι' r=ι r)(f:∀b o,ia o=false->H b=some o->H' b=some o):∀(ds:List (Str×D)) (c:List (Str×V)),RF mg ι n H ds c->RF mg ι' n' H' ds c
 |[],_,h=>h
 |d::ds,c,h=>by
  obtain⟨x,r,g,i,j⟩:=h;exact⟨x,r,g,RV.ag e a f _ x i,RF.ag e a f ds r j⟩
theorem CO.ag{a:Addr}(g:n<=n')(d:∀r,r<n->ι' r=ι r)(i:∀b o,ia o=false->H b=some o->H' b=some o)(j:∀o,H a=some o->H' a=some o):∀(c:C),CO mg ι n H a c->CO mg ι' n' H' a c
 |.lst ds,h=>by
  obtain⟨xs,e,f⟩:=h;exact⟨xs,j _ e,aj.ag g d i ds xs f⟩
 |.dct ds,h=>by
  obtain⟨xs,e,f⟩:=h;exact⟨xs,j _ e,RK.ag g d i ds xs f⟩
 |.bx o ds,h=>by
  obtain⟨xs,e,f⟩:=h;exact⟨xs,j _ e,RK.ag g d i ds xs f⟩
 |.ins cl ds,h=>by
  obtain⟨k,dx,xs,l,e,f⟩:=h;exact⟨k,dx,xs,l,j _ e,RF.ag g d i ds xs f⟩
end
theorem RV.ext(e:Ext A ι H A' ι' H')(d:D)(v:V)(h:RV mg ι A.length H d v):RV mg ι' A'.length H' d v:=RV.ag e.len e.ag (λ_ _ m h=>e.fix m h) d v h
theorem aj.ext(e:Ext A ι H A' ι' H')(d:List D)(v:List V)(h:aj mg ι A.length H d v):aj mg ι' A'.length H' d v:=aj.ag e.len e.ag (λ_ _ m h=>e.fix m h) d v h
theorem RK.ext(e:Ext A ι H A' ι' H')(d:List (Key×D))(v:List (Key×V))(h:RK mg ι A.length H d v):RK mg ι' A'.length H' d v:=RK.ag e.len e.ag (λ_ _ m h=>e.fix m h) d v h
theorem CO.ext{a:Addr}(e:Ext A ι H A' ι' H')(b:∀o,H a=some o->H' a=some o)(c:C)(h:CO mg ι A.length H a c):CO mg ι' A'.length H' a c:=CO.ag (a:=a) (H:=H) (H':=H') e.len e.ag (λ_ _ m h=>e.fix m h) b c h
theorem aj.length:∀{ds:List D} {a:List V} {n:Nat},aj mg ι n H ds a->ds.length=a.length
 |[],a,_,h=>by have h':a=[]:=h;rw[h'];rfl
 |d::ds,a,n,h=>by
  obtain⟨x,r,rfl,_,b⟩:=h;simp[aj.length b]
theorem aj.get:∀{ds:List D} {a:List V} {n i:Nat} {d:D},aj mg ι n H ds a->ds[i]?=some d->∃v,a[i]?=some v/\RV mg ι n H d v
 |[],_,_,_,_,_,e=>by simp at e
 |d::ds,a,n,0,d',h,e=>by
  obtain⟨x,r,rfl,b,_⟩:=h;simp at e;subst e;exact⟨x,rfl,b⟩
 |d::ds,a,n,i+1,d',h,e=>by
  obtain⟨x,r,rfl,_,c⟩:=h;obtain⟨v,h1,h2⟩:=aj.get (i:=i) c (by simpa using e);exact⟨v,by simpa using h1,h2⟩
theorem aj.app:∀{ds es:List D} {a ws:List V} {n:Nat},aj mg ι n H ds a->aj mg ι n H es ws->aj mg ι n H (ds++es) (a++ws)
 |[],_,a,_,_,h,q=>by have h':a=[]:=h;rw[h'];exact q
 |d::ds,es,a,ws,n,h,q=>by
  obtain⟨x,r,rfl,b,c⟩:=h;exact⟨x,r++ws,rfl,b,aj.app c q⟩
theorem aj.take:∀{ds:List D} {a:List V} {n:Nat} (k:Nat),aj mg ι n H ds a->aj mg ι n H (ds.take k) (a.take k)
 |ds,a,n,0,h=>by simp[aj]
 |[],a,n,k+1,h=>by have h':a=[]:=h;rw[h'];simp[aj]
 |d::ds,a,n,k+1,h=>by
  obtain⟨x,r,rfl,b,c⟩:=h;exact⟨x,r.take k,rfl,b,aj.take k c⟩
theorem aj.drop:∀{ds:List D} {a:List V} {n:Nat} (k:Nat),aj mg ι n H ds a->aj mg ι n H (ds.drop k) (a.drop k)
 |ds,a,n,0,h=>by simpa using h
 |[],a,n,k+1,h=>by have h':a=[]:=h;rw[h'];simp[aj]
 |d::ds,a,n,k+1,h=>by
  obtain⟨x,r,rfl,c,b⟩:=h;exact aj.drop k b
theorem RA.im(R:RA mg ι H A):∀r,r<A.length->∃o,H (ι r)=some o/\ia o=true:=λr h=>by
 obtain⟨c',b⟩:∃c',A[r]?=some c':=⟨A[r],by rw[bO h]⟩;have:=R.gj r c' b;cases c' with
 |lst ds=>obtain⟨xs,a,_⟩:=this;exact⟨_,a,rfl⟩
 |dct ds=>obtain⟨xs,a,_⟩:=this;exact⟨_,a,rfl⟩
 |bx o ds=>obtain⟨xs,a,_⟩:=this;exact⟨_,a,rfl⟩
 |ins cl ds=>obtain⟨c,dx,xs,_,a,_⟩:=this;exact⟨_,a,rfl⟩
theorem RA.refl(R:RA mg ι H A):Ext A ι H A ι H:=⟨aI _,λ_ _=>rfl,R.im,λ_ _ h _=>h,λr h1 h2=>absurd h2 (by omega),λ_ o h=>⟨o,h⟩⟩
theorem RA.rE(R:RA mg ι H A){p:Addr}{o:HO}(a:H p=none):Ext A ι H A ι (upd H p o):=
 ⟨aI _,λ_ _=>rfl,R.im,λb u h _=>by rw[aV (dN h a)];exact h,λr h1 h2=>absurd h2 (by omega),λb u h=>⟨u,by rw[aV (dN h a)];exact h⟩⟩
theorem RA.wD(R:RA mg ι H A){p:Addr}{o:HO}{c:C}(a:H p=none):Ext A ι H (A++[c]) (λr=>if r=A.length then p else ι r) (upd H p o):=
 ⟨by simp,λr h=>by
  show(if r=A.length then p else ι r)=ι r;rw[ay (by omega)],R.im,λb u h _=>by rw[aV (dN h a)];exact h,λr h1 h2=>by
  have e:r=A.length:=by simp at h2;omega
  show H (if r=A.length then p else ι r)=none;rw[aA e];exact a,λb u h=>⟨u,by rw[aV (dN h a)];exact h⟩⟩
theorem RA.kR(R:RA mg ι H A){r:Nat}{o:HO}{c:C}(d:r<A.length):Ext A ι H (A.set r c) ι (upd H (ι r) o):=
 ⟨by simp,λ_ _=>rfl,R.im,λb u h f=>by rw[aV (λe=>f r d e.symm)];exact h,λq h1 h2=>absurd h2 (by simp;omega),λb u h=>by
  by_cases a:b=ι r
  .subst a;exact⟨o,ee⟩
  .exact⟨u,by rw[aV a];exact h⟩⟩
theorem RA.fix(R:RA mg ι H A)(e:Ext A ι H A ι H')(k:∀b o,H b=some o->H' b=some o):RA mg ι H' A:=⟨λr c h=>CO.ext e (λo q=>k _ o q) c (R.gj r c h),R.inj⟩
theorem RA.push{p:Addr}{o:HO}{c:C}(R:RA mg ι H A)(e:H p=none)(hc:CO mg (λr=>if r=A.length then p else ι r) (A.length+1) (upd H p o) p c):
  RA mg (λr=>if r=A.length then p else ι r) (upd H p o) (A++[c])/\Ext A ι H (A++[c]) (λr=>if r=A.length then p else ι r) (upd H p o):=by
 have E:Ext A ι H (A++[c]) (λr=>if r=A.length then p else ι r) (upd H p o):=R.wD e;have tr:∀r,r<A.length->∃u,H (ι r)=some u:=λr h=>by
  obtain⟨c',f⟩:∃c',A[r]?=some c':=⟨A[r],by rw[bO h]⟩;have:=R.gj r c' f;cases c' with
  |lst ds=>obtain⟨xs,b,_⟩:=this;exact⟨_,b⟩
  |dct ds=>obtain⟨xs,b,_⟩:=this;exact⟨_,b⟩
  |bx o ds=>obtain⟨xs,b,_⟩:=this;exact⟨_,b⟩
  |ins cl ds=>obtain⟨j,dx,xs,_,b,_⟩:=this;exact⟨_,b⟩
 refine⟨⟨λr c' h=>?_,λr q g i h=>?_⟩,E⟩
 .by_cases g:r<A.length
  .rw[gz g] at h
   have:=CO.ext E (a:=ι r) (λo' q=>by rw[aV (dN q e)];exact q) c' (R.gj r c' h);show CO mg _ _ _ (if r=A.length then p else ι r) c';rw[ay (by omega)];exact this
  .have hl:r=A.length:=by
    have:=(bR.mp h).1;simp at this;omega
   subst hl;simp at h;subst h;show CO mg _ _ _ (if A.length=A.length then p else ι A.length) c;rw[aA rfl];simpa using hc
 .simp at g i
  have h':(if r=A.length then p else ι r)=(if q=A.length then p else ι q):=h;by_cases h1:r=A.length
  .by_cases h2:q=A.length
   .rw[h1,h2]
   .rw[aA h1,ay h2] at h'
    obtain⟨u,d⟩:=tr q (by omega);rw[<-h',e] at d;cases d
  .by_cases h2:q=A.length
   .rw[ay h1,aA h2] at h'
    obtain⟨u,d⟩:=tr r (by omega);rw[h',e] at d;cases d
   .rw[ay h1,ay h2] at h'
    exact R.inj r q (by omega) (by omega) h'
theorem RA.put{r:Nat}{u o:HO}{c c':C}(R:RA mg ι H A)(i:A[r]?=some c)(m:H (ι r)=some u)(n:ia u=true)(hc:CO mg ι A.length (upd H (ι r) o) (ι r) c'):
  RA mg ι (upd H (ι r) o) (A.set r c')/\Ext A ι H (A.set r c') ι (upd H (ι r) o):=by
 have f:=(bR.mp i).1;have E:Ext A ι H (A.set r c') ι (upd H (ι r) o):=R.kR f;refine⟨⟨λq d h=>?_,λa b j k=>R.inj a b (by simpa using j) (by simpa using k)⟩,E⟩;by_cases g:q=r
 .subst g
  rw[fu f] at h;cases h;simpa using hc
 .rw[fm (Ne.symm g)] at h
  have l:=(bR.mp h).1;have:=CO.ext E (a:=ι q) (λo' z=>by rw[aV (λe=>g (R.inj q r l f e))];exact z) d (R.gj q d h);simpa using this
end
abbrev bq:=List (Option D)
def lk:bq->Nat->Option D
 |[],_=>none
 |x::_,0=>x
 |_::r,i+1=>lk r i
theorem sd:∀(τ:bq) (i:Nat),lk τ i=(τ[i]?).join
 |[],i=>by simp[lk]
 |x::r,0=>by simp[lk]
 |x::r,i+1=>by simp[lk,sd r i]
structure En where
 A:Ar
 ι:Io
 H:Hp
structure RS(mg:aq)(ι:Io)(n:Nat)(H:Hp)(τ:bq)(σ:L2.St):Prop where
 len:τ.length=σ.length
 at':∀i d,lk τ i=some d->∃v,σ[i]?=some (some v)/\RV mg ι n H d v
structure dj(mg:aq)(N:En)(A:Ar)(ι:Io)(τ:bq)(σ:L2.St)(H:Hp):Prop where
 ra:RA mg ι H A
 rs:RS mg ι A.length H τ σ
 ex:Ext N.A N.ι N.H A ι H
abbrev DK:=D->Ar->Prop
abbrev aM:=bq->Ar->DK->Prop
abbrev ef:=bq->Ar->(Bool->Ar->Prop)->Prop
abbrev dg:=bq->Ar->(List D->Ar->Prop)->Prop
def Kt(mg:aq)(A:Ar)(ι:Io)(H:Hp)(R:DK)(Q:VK):Prop:=∀v A' ι' H' u,R v A'->Ext A ι H A' ι' H'->RA mg ι' H' A'->RV mg ι' A'.length H' v u->Q u H'
def mF(mg:aq)(A:Ar)(ι:Io)(H:Hp)(R:Bool->Ar->Prop)(Q:Bool->Hp->Prop):Prop:=∀v A' ι' H',R v A'->Ext A ι H A' ι' H'->RA mg ι' H' A'->Q v H'
def GB(mg:aq)(A:Ar)(ι:Io)(H:Hp)(R:List D->Ar->Prop)(Q:List V->Hp->Prop):Prop:=∀v A' ι' H' u,R v A'->Ext A ι H A' ι' H'->RA mg ι' H' A'->aj mg ι' A'.length H' v u->Q u H'
def up(mg:aq)(N:En)(m:aM):TE:=λσ H Q=>∃A ι τ R,dj mg N A ι τ σ H/\m τ A R/\Kt mg A ι H R Q
def cH(mg:aq)(N:En)(m:ef):TT:=λσ H Q=>∃A ι τ R,dj mg N A ι τ σ H/\m τ A R/\mF mg A ι H R Q
def fD(mg:aq)(N:En)(m:dg):TA:=λσ H Q=>∃A ι τ R,dj mg N A ι τ σ H/\m τ A R/\GB mg A ι H R Q
section
variable{mg:aq}{N:En}{A A':Ar}{ι ι':Io}{τ:bq}{σ:L2.St}{H H':Hp}
theorem RS.ext(e:Ext A ι H A' ι' H')(r:RS mg ι A.length H τ σ):RS mg ι' A'.length H' τ σ:=⟨r.len,λi d h=>by
 obtain⟨v,h1,h2⟩:=r.at' i d h;exact⟨v,h1,RV.ext e d v h2⟩⟩
theorem dj.next(S:dj mg N A ι τ σ H)(e:Ext A ι H A' ι' H')(r:RA mg ι' H' A'):dj mg N A' ι' τ σ H':=⟨r,S.rs.ext e,S.ex.trans e⟩
theorem Kt.from{R:DK}{Q:VK}(k:Kt mg A ι H R Q)(e:Ext A ι H A' ι' H'):Kt mg A' ι' H' R Q:=λv b a H2 u q c=>k v b a H2 u q (e.trans c)
theorem mF.from{R:Bool->Ar->Prop}{Q:Bool->Hp->Prop}(k:mF mg A ι H R Q)(e:Ext A ι H A' ι' H'):mF mg A' ι' H' R Q:=λv b a H2 q c=>k v b a H2 q (e.trans c)
theorem Kt.here{R:DK}{Q:VK}{d:D}{v:V}(k:Kt mg A ι H R Q)(r:RA mg ι H A)(q:R d A)(h:RV mg ι A.length H d v):Q v H:=k d A ι H v q r.refl r h
theorem mF.here{R:Bool->Ar->Prop}{Q:Bool->Hp->Prop}{b:Bool}(k:mF mg A ι H R Q)(r:RA mg ι H A)(q:R b A):Q b H:=k b A ι H q r.refl r
end
section
variable{X:Cx}{e:Expr}
theorem dZ{t t':TE}(h:PE X e t)(w:∀σ H Q,t' σ H Q->t σ H Q):PE X e t':=λpins s σ H Q I q=>h pins s σ H Q I (w σ H Q q)
theorem rz{t t':TT}(h:PT X e t)(w:∀σ H Q,t' σ H Q->t σ H Q):PT X e t':=λpins s σ H Q I q=>h pins s σ H Q I (w σ H Q q)
theorem Bp{t t':TT}(h:PW X e t)(w:∀σ H Q,t' σ H Q->t σ H Q):PW X e t':=λwhole pins s σ H Q I q=>h whole pins s σ H Q I (w σ H Q q)
theorem AS{es:List Expr}{t t':TA}(h:PA X es t)(w:∀σ H Q,t' σ H Q->t σ H Q):PA X es t':=λpos pins s σ H Q I q=>h pos pins s σ H Q I (w σ H Q q)
theorem gG{st:Stmt}{t t':TS}(h:PS X st t)(w:∀D σ H,t' D σ H->t D σ H):PS X st t':=λpins s σ H D I q=>h pins s σ H D I (w D σ H q)
theorem Bo{st:List Stmt}{t t':TS}(h:dB X st t)(w:∀D σ H,t' D σ H->t D σ H):dB X st t':=λpins s σ H D I q=>h pins s σ H D I (w D σ H q)
end
def dh(i:Nat):aM:=λτ A R=>match lk τ i with
 |some v=>R v A
 |none=>False
def dC(d:D):aM:=λ_ A R=>R d A
section
variable{X:Cx}{N:En}{pos:Pos}
theorem Ih{i:Nat}{x:Str}(b:X.N[i]?=some x)(c:mH X.env.scope x)(hd:(x==("__debug__":Str))=false:=by decide)(a:(x==("__classdict__":Str))=false:=by decide):PE X (.Name x pos) (up X.mg N (dh i)):=
 dZ (Nq b c hd a) λσ H Q h=>by
  obtain⟨A,ι,τ,R,S,h,k⟩:=h;unfold dh at h;split at h
  .rename_i v e
   obtain⟨u,h1,h2⟩:=S.rs.at' i v e;exact⟨u,h1,k.here S.ra h h2⟩
  .exact h.elim
theorem oU{e:Expr}{d:D}{v:V}(h:PE X e (tC v))(r:∀ι n H,RV X.mg ι n H d v):PE X e (up X.mg N (dC d)):=
 dZ h λσ H Q h=>by
  obtain⟨A,ι,τ,R,S,h,k⟩:=h;exact k.here S.ra h (r _ _ _)
theorem ao{i j}:PE X (.Constant (.int i) j pos) (up X.mg N (dC (.int i))):=oU Nb λ_ _ _=>rfl
theorem fO{b j}:PE X (.Constant (.bool b) j pos) (up X.mg N (dC (.bl b))):=oU M1 λ_ _ _=>rfl
theorem jU{j}:PE X (.Constant .none j pos) (up X.mg N (dC .ai)):=oU Ng λ_ _ _=>rfl
theorem bG{x j}:PE X (.Constant (.str x) j pos) (up X.mg N (dC (.str x))):=oU Nl λ_ _ _=>rfl
theorem oV{x:Str}{i:Int}{t:Tok}(a:X.mg x=some (.int i t))(b:Gl X x:=by rfl)(hd:(x==("__debug__":Str))=false:=by decide):PE X (.Name x pos) (up X.mg N (dC (.int i))):=
 oU (Na (v:=.int i) b a ⟨_,rfl⟩ hd) λ_ _ _=>rfl
end
abbrev d8:=D->D->Ar->DK->Prop
def dJ(mg:aq)(r:R2)(f:d8):Prop:=∀x y A ι H u v R Q,RA mg ι H A->RV mg ι A.length H x u->RV mg ι A.length H y v->f x y A R->Kt mg A ι H R Q->r u v H Q
def dm(f:d8)(ma mb:aM):aM:=λτ A R=>ma τ A λx A1=>mb τ A1 λy A2=>f x y A2 R
section
variable{X:Cx}{N:En}{pos:Pos}{a b c:Expr}{ma mb mc:aM}{f f':d8}{r r':R2}
theorem uy(h:dJ X.mg r f){σ:L2.St}{H:Hp}{Q:VK}(q:up X.mg N (dm f ma mb) σ H Q):p_ r (up X.mg N ma) (up X.mg N mb) σ H Q:=by
 obtain⟨A,ι,τ,R,S,q,k⟩:=q;have q:ma τ A (λx a=>mb τ a λy b=>f x y b R):=q;refine⟨A,ι,τ,_,S,q,λx a c H1 u i e j l=>?_⟩;refine⟨a,c,τ,_,S.next e j,i,λy b d H2 v m g n v2=>?_⟩;exact h x y b d H2 u v R Q n (RV.ext g x u l) v2 m (k.from (e.trans g))
theorem mP{op:Operator}(c:a_ X (binaryOp op) r)(hd:dJ X.mg r f)(d:PE X a (up X.mg N ma))(e:PE X b (up X.mg N mb)):PE X (.BinOp a op b pos) (up X.mg N (dm f ma mb)):=
 dZ (Ni c d e) λ_ _ _ h=>uy hd h
theorem vV{op:CmpOp}(c:a_ X (compareOp op) r)(hd:dJ X.mg r f)(d:PE X a (up X.mg N ma))(e:PE X b (up X.mg N mb))(g:behindInMarks op b=false):PE X (.Compare a [op] [b] pos) (up X.mg N (dm f ma mb)):=
 dZ (M8 c d e g) λ_ _ _ h=>uy hd h
def f7(m:aM):ef:=λτ A R=>m τ A λx A1=>match x with
 |.bl k=>R k A1
 |_=>False
theorem yS{t:TE}{m:aM}(d:∀σ H Q,up X.mg N m σ H Q->t σ H Q){σ:L2.St}{H:Hp}{Q:Bool->Hp->Prop}(q:cH X.mg N (f7 m) σ H Q):yL t σ H Q:=by
 obtain⟨A,ι,τ,R,S,q,k⟩:=q;refine d _ _ _ ⟨A,ι,τ,_,S,q,λx e a H1 u c f g h=>?_⟩;cases x with
 |bl b=>exact⟨b,h,k b e a H1 c f g⟩
 |_=>exact c.elim
theorem ju{op:CmpOp}(c:a_ X (compareOp op) r)(hd:dJ X.mg r f)(d:PE X a (up X.mg N ma))(e:PE X b (up X.mg N mb))(g:behindInMarks op b=false):PT X (.Compare a [op] [b] pos) (cH X.mg N (f7 (dm f ma mb))):=
 rz (N6 c d e g) λ_ _ _ h=>yS (λ_ _ _ h=>uy hd h) h
def oR(f f':d8)(ma mb mc:aM):aM:=λτ A R=>ma τ A λx A1=>mb τ A1 λy A2=>f x y A2 λz A3=>match z with
 |.bl k=>cond k (mc τ A3 λw A4=>f' y w A4 R) (R (.bl false) A3)
 |_=>False
theorem Fx(h:dJ X.mg r f)(h':dJ X.mg r' f'){σ:L2.St}{H:Hp}{Q:VK}(q:up X.mg N (oR f f' ma mb mc) σ H Q):yH r r' (up X.mg N ma) (up X.mg N mb) (up X.mg N mc) σ H Q:=by
 obtain⟨A,ι,τ,R,S,q,k⟩:=q;refine⟨A,ι,τ,_,S,q,λx s e H1 u t a m B=>?_⟩;refine⟨s,e,τ,_,S.next a m,t,λy C g H2 v D c n v2=>?_⟩;refine h x y C g H2 u v _ _ n (RV.ext c x u B) v2 D λz E i L w j d o F=>?_;cases z with
 |bl b=>
  refine⟨b,F,?_⟩;cases b with
  |true=>
   rw[aA rfl];refine⟨E,i,τ,_,((S.next a m).next c n).next d o,j,λz G l I w J p K v4=>?_⟩;exact h' y z G l I v w R Q K (RV.ext (d.trans p) y v v2) v4 J (k.from (((a.trans c).trans d).trans p))
  |false=>
   rw[ay b9];exact(k.from ((a.trans c).trans d)).here o j rfl
 |_=>exact j.elim
theorem H9{op d:CmpOp}(i:a_ X (compareOp op) r)(e:a_ X (compareOp d) r')(hd:dJ X.mg r f)(g:dJ X.mg r' f')(j:PE X a (up X.mg N ma))(k:PE X b (up X.mg N mb))(hc:PE X c (up X.mg N mc))
  (l:lastMarks [op,d] [b,c]=false:=by with_unfolding_all rfl):PE X (.Compare a [op,d] [b,c] pos) (up X.mg N (oR f f' ma mb mc)):=
 dZ (M7 i e j k hc l) λ_ _ _ h=>Fx hd g h
theorem IB{op d:CmpOp}(i:a_ X (compareOp op) r)(e:a_ X (compareOp d) r')(hd:dJ X.mg r f)(g:dJ X.mg r' f')(j:PE X a (up X.mg N ma))(k:PE X b (up X.mg N mb))(hc:PE X c (up X.mg N mc))
  (l:lastMarks [op,d] [b,c]=false:=by with_unfolding_all rfl):PT X (.Compare a [op,d] [b,c] pos) (cH X.mg N (f7 (oR f f' ma mb mc))):=
 rz (N4 i e j k hc l) λ_ _ _ h=>yS (λ_ _ _ h=>Fx hd g h) h
theorem eE{m:aM}(h:PE X a (up X.mg N m))(b:∀whole,isTrue a X.env whole=(do let v <-whole;standAt a.pos;holding [v] (truthy v)):=by intro _;rfl):PT X a (cH X.mg N (f7 m)):=
 rz (N8 h b) λ_ _ _ q=>yS (λ_ _ _ h=>h) q
def Hx(t u:ef):ef:=λτ A R=>t τ A λc A1=>cond c (u τ A1 R) (R false A1)
def HF(t u:ef):ef:=λτ A R=>t τ A λc A1=>cond c (R true A1) (u τ A1 R)
def HE(t:ef):ef:=λτ A R=>t τ A λc A1=>R (!c) A1
variable{tA tB:ef}{rest:List Expr}
theorem wg(b:PT X a (cH X.mg N tA)):PW X (.BoolOp .And [a] pos) (cH X.mg N tA):=pw_and1 b
theorem f_(b:PT X a (cH X.mg N tA)):PW X (.BoolOp .Or [a] pos) (cH X.mg N tA):=pw_or1 b
theorem we(g:PT X a (cH X.mg N tA))(h:PW X (.BoolOp .And (b::rest) pos) (cH X.mg N tB)):PW X (.BoolOp .And (a::b::rest) pos) (cH X.mg N (Hx tA tB)):=
 Bp (pw_and g h) λσ H Q q=>by
  obtain⟨A,ι,τ,R,S,q,k⟩:=q;refine⟨A,ι,τ,_,S,q,λx i c H1 e d f=>?_⟩;cases x with
  |true=>rw[aA rfl];exact⟨i,c,τ,_,S.next d f,e,k.from d⟩
  |false=>rw[ay b9];exact(k.from d).here f e
theorem fy(g:PT X a (cH X.mg N tA))(h:PW X (.BoolOp .Or (b::rest) pos) (cH X.mg N tB)):PW X (.BoolOp .Or (a::b::rest) pos) (cH X.mg N (HF tA tB)):=
 Bp (pw_or g h) λσ H Q q=>by
  obtain⟨A,ι,τ,R,S,q,k⟩:=q;refine⟨A,ι,τ,_,S,q,λx i c H1 e d f=>?_⟩;cases x with
  |true=>rw[aA rfl];exact(k.from d).here f e
  |false=>rw[ay b9];exact⟨i,c,τ,_,S.next d f,e,k.from d⟩
theorem e_(b:PT X a (cH X.mg N tA)):PT X (.UnaryOp .Not a pos) (cH X.mg N (HE tA)):=
 rz (N7 b) λσ H Q q=>by
  obtain⟨A,ι,τ,R,S,q,k⟩:=q;exact⟨A,ι,τ,_,S,q,λx g c H1 d e f=>(k.from e).here f d⟩
def Hy(ma mb:aM):aM:=λτ A R=>ma τ A λx A1=>match x with
 |.bl c=>cond c (mb τ A1 R) (R (.bl false) A1)
 |_=>False
theorem oW{op}(h:PE X a (up X.mg N ma)):PE X (.BoolOp op [a] pos) (up X.mg N ma):=Nh h
theorem mL(h:PE X a (up X.mg N ma))(i:PE X (.BoolOp .And (b::rest) pos) (up X.mg N mb)):PE X (.BoolOp .And (a::b::rest) pos) (up X.mg N (Hy ma mb)):=
 dZ (M0 h i) λσ H Q q=>by
  obtain⟨A,ι,τ,R,S,q,k⟩:=q;refine⟨A,ι,τ,_,S,q,λx j d H1 u e f g l=>?_⟩;cases x with
  |bl c=>
   refine⟨c,l,?_⟩;cases c with
   |true=>rw[aA rfl];exact⟨j,d,τ,_,S.next f g,e,k.from f⟩
   |false=>rw[ay b9];exact(k.from f).here g e rfl
  |_=>exact e.elim
end
def bT:dg:=λ_ A R=>R [] A
def aO(m:aM)(n:dg):dg:=λτ A R=>m τ A λx A1=>n τ A1 λxs A2=>R (x::xs) A2
def jt(n:dg):aM:=λτ A R=>n τ A λxs A1=>xs.length<=sizeLine/\R (.tup xs) A1
def fF(n:dg):aM:=λτ A R=>n τ A λxs A1=>xs.length<=sizeLine/\R (.ref A1.length) (A1++[.lst xs])
section
variable{X:Cx}{N:En}{pos:Pos}{e:Expr}{es:List Expr}{m:aM}{n:dg}
theorem ah:PA X [] (fD X.mg N bT):=AS Df λσ H Q q=>by
 obtain⟨A,ι,τ,R,S,q,k⟩:=q;exact k [] A ι H [] q S.ra.refl S.ra rfl
theorem aa(f:PE X e (up X.mg N m))(g:PA X es (fD X.mg N n))(h:starEach (e::es) X.env=(false,eval e X.env)::starEach es X.env:=by rfl):PA X (e::es) (fD X.mg N (aO m n)):=
 AS (yc f g h) λσ H Q q=>by
  obtain⟨A,ι,τ,R,S,q,k⟩:=q;refine⟨A,ι,τ,_,S,q,λx i a H1 u j c l o=>?_⟩;refine⟨i,a,τ,_,S.next c l,j,λy p b H2 v r d s v2=>?_⟩;exact k _ p b H2 _ r (c.trans d) s ⟨u,v,rfl,RV.ext d x u o,v2⟩
theorem sE{mg:aq}{A:Ar}{ι:Io}{H:Hp}{R:DK}{Q:VK}{ds:List D}{xs:List V}{p:Addr}(k:Kt mg A ι H R Q)(r:RA mg ι H A)(h:aj mg ι A.length H ds xs)(q:R (.tup ds) A)(a:H p=none):Q (.ref p) (upd H p (.tup xs)):=by
 have E:Ext A ι H A ι (upd H p (.tup xs)):=r.rE a;exact k _ A ι _ _ q E (r.fix E λb o z=>by rw[aV (dN z a)];exact z) ⟨p,xs,rfl,ee,aj.ext E ds xs h⟩
theorem jf{mg:aq}{A:Ar}{ι:Io}{H:Hp}{R:DK}{Q:VK}{ds:List D}{xs:List V}{p:Addr}(k:Kt mg A ι H R Q)(r:RA mg ι H A)(h:aj mg ι A.length H ds xs)(q:R (.ref A.length) (A++[.lst ds]))(a:H p=none):Q (.ref p) (upd H p (.lst xs)):=by
 have E:Ext A ι H (A++[.lst ds]) (λr=>if r=A.length then p else ι r) (upd H p (.lst xs)):=r.wD a;obtain⟨b,d⟩:=r.push (c:=.lst ds) (o:=.lst xs) a ⟨xs,ee,by simpa using aj.ext E ds xs h⟩;refine k _ _ _ _ _ q d b ⟨by simp,?_⟩;show V.ref p=V.ref (if A.length=A.length then p else ι A.length);rw[aA rfl]
theorem cg{c}(h:PA X es (fD X.mg N n)):PE X (.Tuple es c pos) (up X.mg N (jt n)):=dZ (Nn h) λσ H Q q=>by
 obtain⟨A,ι,τ,R,S,q,k⟩:=q;refine⟨A,ι,τ,_,S,q,λx i d H1 u a e f b=>?_⟩;exact⟨by rw[<-aj.length b];exact a.1,λp g=>sE (k.from e) f b a.2 g⟩
theorem bK(h:PA X es (fD X.mg N n)):PE X (.List es pos) (up X.mg N (fF n)):=dZ (Nf h) λσ H Q q=>by
 obtain⟨A,ι,τ,R,S,q,k⟩:=q;refine⟨A,ι,τ,_,S,q,λx g c H1 u a d e b=>?_⟩;exact⟨by rw[<-aj.length b];exact a.1,λp f=>jf (k.from d) e b a.2 f⟩
end
section
variable{mg:aq}{K:Frag}{A:Ar}{ι:Io}{H:Hp}
theorem RA.lst(r:RA mg ι H A){q:Nat}{ds:List D}(h:A[q]?=some (.lst ds)):∃xs,H (ι q)=some (.lst xs)/\aj mg ι A.length H ds xs:=r.gj q _ h
theorem RA.dct(r:RA mg ι H A){q:Nat}{ds:List (Key×D)}(h:A[q]?=some (.dct ds)):∃xs,H (ι q)=some (.dK xs)/\RK mg ι A.length H ds xs:=r.gj q _ h
theorem RA.bx(r:RA mg ι H A){q:Nat}{o:Obj}{ds:List (Key×D)}(h:A[q]?=some (.bx o ds)):∃xs,H (ι q)=some (.bz o (.dK xs))/\RK mg ι A.length H ds xs:=r.gj q _ h
theorem aj.ints:∀(ns:List Int) {n:Nat},aj mg ι n H (ns.map D.int) (ns.map V.int)
 |[],_=>rfl
 |i::r,n=>⟨_,_,rfl,rfl,aj.ints r⟩
theorem aj.C4{n:Nat}{ds:List D}(h:aj mg ι n H ds []):ds=[]:=by
 cases ds with
 |nil=>rfl
 |cons d r=>obtain⟨x,r,e,_⟩:=h;cases e
end
abbrev DE(K:Frag):R2:=λx y H Q=>ig (λi j=>.int (i+j)) x y H Q\/(∃i j,x=.str i/\y=.str j/\i.length+j.length<=sizeLine/\Q (.str (i++j)) H)\/DG K x y H Q\/DF x y H Q
theorem Ms{X:Cx}:a_ X (binaryOp .Add) (DE X.K):=Mz.or (MB.or (MD.or MC))
@[irreducible] def qV(r q:Nat)(A:Ar)(R:DK):Prop:=match A[r]?,A[q]? with
 |some (.lst xs),some (.lst ys)=>xs.length+ys.length<=sizeLine/\R (.ref A.length) (A++[.lst (xs++ys)])
 |_,_=>False
def qO:d8:=λx y A R=>match x,y with
 |.int i,.int j=>R (.int (i+j)) A
 |.str a,.str b=>a.length+b.length<=sizeLine/\R (.str (a++b)) A
 |.tup xs,.tup ys=>xs.length+ys.length<=sizeLine/\R (.tup (xs++ys)) A
 |.ref r,.ref q=>qV r q A R
 |_,_=>False
theorem HJ{mg:aq}{K:Frag}:dJ mg (DE K) qO:=by
 intro x y A ι H u v R Q ra e f h k;unfold qO at h;split at h
 .cases e;cases f
  exact .inl ⟨_,_,rfl,rfl,k.here ra h rfl⟩
 .cases e;cases f
  exact .inr (.inl ⟨_,_,rfl,rfl,h.1,k.here ra h.2 rfl⟩)
 .obtain⟨a,xs,rfl,g,c⟩:=e
  obtain⟨b,ys,rfl,i,d⟩:=f;refine .inr (.inr (.inl ⟨a,b,xs,ys,rfl,rfl,bu.of g,bu.of i,by rw[<-aj.length c,<-aj.length d];exact h.1,λz=>?_,λ_ z=>?_,λ_ _ p j=>sE k ra (c.app d) h.2 j⟩))
  .subst z
   obtain rfl:=aj.C4 c;exact k.here ra h.2 ⟨b,ys,rfl,i,d⟩
  .subst z
   obtain rfl:=aj.C4 d;exact k.here ra h.2 ⟨a,xs,rfl,g,by rw[kr];exact c⟩
 .rename_i r q
  unfold qV at h;split at h
  .rename_i xs ys g i
   obtain⟨l,h1,c⟩:=ra.lst g;obtain⟨m,h2,d⟩:=ra.lst i;obtain⟨_,rfl⟩:=e;obtain⟨_,rfl⟩:=f;exact .inr (.inr (.inr ⟨_,_,l,m,rfl,rfl,h1,h2,by rw[<-aj.length c,<-aj.length d];exact h.1,λp j=>jf k ra (c.app d) h.2 j⟩))
  .exact h.elim
 .exact h.elim
def intD(C:Int->Int->Prop)(g:Int->Int->D):d8:=λx y A R=>match x,y with
 |.int i,.int j=>C i j/\R (g i j) A
 |_,_=>False
def rR(g:Int->Int->D):d8:=λx y A R=>match x,y with
 |.int i,.int j=>R (g i j) A
 |_,_=>False
theorem vU{mg:aq}{C:Int->Int->Prop}{g:Int->Int->V}{g':Int->Int->D}(a:∀i j ι n H,RV mg ι n H (g' i j) (g i j)):dJ mg (rI C g) (intD C g'):=by
 intro x y A ι H u v R Q ra b c h k;unfold intD at h;split at h
 .cases b;cases c
  exact⟨_,_,rfl,rfl,h.1,k.here ra h.2 (a _ _ _ _ _)⟩
 .exact h.elim
theorem AN{mg:aq}{g:Int->Int->V}{g':Int->Int->D}(a:∀i j ι n H,RV mg ι n H (g' i j) (g i j)):dJ mg (ig g) (rR g'):=by
 intro x y A ι H u v R Q ra b c h k;unfold rR at h;split at h
 .cases b;cases c
  exact⟨_,_,rfl,rfl,k.here ra h (a _ _ _ _ _)⟩
 .exact h.elim
abbrev P1:d8:=rR λi j=>.int (i - j)
abbrev Mb:d8:=intD qB λi j=>.int (i*j)
abbrev Iq:d8:=intD (λ_ j=>0<j/\j.natAbs.log2<9000) λi j=>.int (i/j)
abbrev L6:d8:=intD (λ_ j=>0<j) λi j=>.int (i%j)
section
variable{X:Cx}{N:En}{pos:Pos}{a b c:Expr}{ma mb mc:aM}
theorem c8(c:PE X a (up X.mg N ma))(d:PE X b (up X.mg N mb)):PE X (.BinOp a .Add b pos) (up X.mg N (dm qO ma mb)):=mP Ms HJ c d
theorem mQ(c:PE X a (up X.mg N ma))(d:PE X b (up X.mg N mb)):PE X (.BinOp a .Sub b pos) (up X.mg N (dm P1 ma mb)):=mP MX (AN λ_ _ _ _ _=>rfl) c d
theorem dY(c:PE X a (up X.mg N ma))(d:PE X b (up X.mg N mb)):PE X (.BinOp a .Mult b pos) (up X.mg N (dm Mb ma mb)):=mP MR (vU λ_ _ _ _ _=>rfl) c d
theorem ri(c:PE X a (up X.mg N ma))(d:PE X b (up X.mg N mb)):PE X (.BinOp a .FloorDiv b pos) (up X.mg N (dm Iq ma mb)):=mP MI (vU λ_ _ _ _ _=>rfl) c d
theorem mO(c:PE X a (up X.mg N ma))(d:PE X b (up X.mg N mb)):PE X (.BinOp a .Mod b pos) (up X.mg N (dm L6 ma mb)):=mP MQ (vU λ_ _ _ _ _=>rfl) c d
def HC(m:aM):aM:=λτ A R=>m τ A λx A1=>match x with
 |.int i=>R (.int (-i)) A1
 |_=>False
theorem Ic(c:PE X a (up X.mg N ma)):PE X (.UnaryOp .USub a pos) (up X.mg N (HC ma)):=dZ (Np Q0 c) λσ H Q q=>by
 obtain⟨A,ι,τ,R,S,q,k⟩:=q;refine⟨A,ι,τ,_,S,q,λx h d H1 u b e f g=>?_⟩;cases x with
 |int i=>cases g;exact⟨i,rfl,(k.from e).here f b rfl⟩
 |_=>exact b.elim
end
abbrev DR:R2:=λx y H Q=>ig (λi j=>.bl (decide (i<j))) x y H Q\/∃i j,x=.str i/\y=.str j/\Q (.bl (decide (i.cps.toList<j.cps.toList))) H
abbrev DQ:R2:=λx y H Q=>ig (λi j=>.bl (decide (i<=j))) x y H Q\/∃i j,x=.str i/\y=.str j/\Q (.bl (!decide (j.cps.toList<i.cps.toList))) H
theorem Mt{X:Cx}:a_ X (compareOp .Lt) DR:=MO.or MP
theorem sH{X:Cx}:a_ X (compareOp .LtE) DQ:=MM.or MN
def xM:d8:=λx y A R=>match x,y with
 |.int i,.int j=>R (.bl (decide (i<j))) A
 |.str a,.str b=>R (.bl (decide (a.cps.toList<b.cps.toList))) A
 |_,_=>False
def nc:d8:=λx y A R=>match x,y with
 |.int i,.int j=>R (.bl (decide (i<=j))) A
 |.str a,.str b=>R (.bl (!decide (b.cps.toList<a.cps.toList))) A
 |_,_=>False
theorem HS{mg:aq}:dJ mg DR xM:=by
 intro x y A ι H u v R Q ra a b h k;unfold xM at h;split at h
 .cases a;cases b;exact .inl ⟨_,_,rfl,rfl,k.here ra h rfl⟩
 .cases a;cases b;exact .inr ⟨_,_,rfl,rfl,k.here ra h rfl⟩
 .exact h.elim
theorem qZ{mg:aq}:dJ mg DQ nc:=by
 intro x y A ι H u v R Q ra a b h k;unfold nc at h;split at h
 .cases a;cases b;exact .inl ⟨_,_,rfl,rfl,k.here ra h rfl⟩
 .cases a;cases b;exact .inr ⟨_,_,rfl,rfl,k.here ra h rfl⟩
 .exact h.elim
abbrev BZ:d8:=rR λi j=>.bl (decide (j<i))
theorem HM{mg:aq}:dJ mg (ig λi j=>.bl (decide (j<i))) BZ:=AN λ_ _ _ _ _=>rfl
def xy:D->Bool
 |.ai=>true
 |_=>false
def xw:d8:=λx y A R=>match y with
 |.ai=>R (.bl (xy x)) A
 |_=>False
def xY:d8:=λx y A R=>match y with
 |.ai=>R (.bl (!xy x)) A
 |_=>False
theorem RV.C8{mg:aq}{ι:Io}{n:Nat}{H:Hp}{x:D}{u:V}(r:RV mg ι n H x u):decide (u=.ai)=xy x:=by
 cases x with
 |ai=>cases r;rfl
 |bl b=>cases r;rfl
 |int b=>cases r;rfl
 |str b=>cases r;rfl
 |tup ds=>obtain⟨a,xs,rfl,_⟩:=r;rfl
 |ref q=>obtain⟨_,rfl⟩:=r;rfl
 |fl ns=>obtain⟨a,o,rfl,_⟩:=r;rfl
 |exc c=>obtain⟨a,C,rfl,_⟩:=r;rfl
theorem HP{mg:aq}:dJ mg (λx y H Q=>y=.ai/\Q (.bl (decide (x=.ai))) H) xw:=by
 intro x y A ι H u v R Q ra a b h k;unfold xw at h;split at h
 .cases b
  refine⟨rfl,?_⟩;rw[a.C8];exact k.here ra h rfl
 .exact h.elim
theorem HW{mg:aq}:dJ mg (λx y H Q=>y=.ai/\Q (.bl (!decide (x=.ai))) H) xY:=by
 intro x y A ι H u v R Q ra a b h k;unfold xY at h;split at h
 .cases b
  refine⟨rfl,?_⟩;rw[a.C8];exact k.here ra h rfl
 .exact h.elim
mutual
def toQ:D->PyData
 |.ai=>.none
 |.bl b=>.bool b
 |.int i=>.int i
 |.str x=>.str x
 |.tup xs=>.tuple (bX xs)
 |.ref _=>.none
 |.fl ns=>.list (ns.map .int)
 |.exc _=>.none
def bX:List D->List PyData
 |[]=>[]
 |d::r=>toQ d::bX r
end
mutual
def ie:D->Bool
 |.tup xs=>gu xs
 |.ref _=>false
 |.exc _=>false
 |_=>true
def gu:List D->Bool
 |[]=>true
 |d::r=>ie d&&gu r
end
def c_(A:Ar):D->PyData
 |.ref r=>match A[r]? with
  |some (.lst xs)=>.list (bX xs)
  |_=>.none
 |d=>toQ d
def iM(A:Ar):D->Bool
 |.ref r=>match A[r]? with
  |some (.lst xs)=>gu xs
  |_=>false
 |d=>ie d
section
variable{mg:aq}{K:Frag}{A:Ar}{ι:Io}{H:Hp}
theorem Iu:∀ns:List Int,fL K H (ns.map V.int) (ns.map PyData.int):=fL.ints
mutual
theorem RV.dp{n:Nat}:∀(d:D) (v:V),ie d=true->RV mg ι n H d v->Dp K H v (toQ d)
 |.ai,_,_,h=>by cases h;exact .ai
 |.bl b,_,_,h=>by cases h;exact .bl b
 |.int i,_,_,h=>by cases h;exact .int i
 |.str x,_,_,h=>by cases h;exact .str x
 |.tup ds,v,p,h=>by
  obtain⟨a,xs,rfl,e,r⟩:=h;exact .tup (bu.of e) (aj.dp ds xs (by simpa[ie] using p) r)
 |.ref _,_,p,_=>by simp[ie] at p
 |.fl ns,v,_,h=>by
  obtain⟨a,o,rfl,e⟩:=h;exact .lst (.inl (.inr ⟨o,e⟩)) (Iu ns)
 |.exc _,_,p,_=>by simp[ie] at p
theorem aj.dp{n:Nat}:∀(ds:List D) (a:List V),gu ds=true->aj mg ι n H ds a->fL K H a (bX ds)
 |[],a,_,h=>by cases (show a=[] from h);exact .nil
 |d::ds,a,p,h=>by
  obtain⟨x,r,rfl,h1,h2⟩:=h;have b:ie d=true/\gu ds=true:=by simpa[gu] using p
  exact .cons (RV.dp d x b.1 h1) (aj.dp ds r b.2 h2)
end
theorem RA.dp(ra:RA mg ι H A){d:D}{v:V}(p:iM A d=true)(h:RV mg ι A.length H d v):Dp K H v (c_ A d):=by
 cases d with
 |ref r=>
  obtain⟨_,rfl⟩:=h;unfold iM at p;unfold c_;simp only at p ⊢;split at p
  .rename_i xs e
   obtain⟨a,h1,b⟩:=ra.lst e;exact .lst (aS.of h1) (aj.dp xs a p b)
  .cases p
 |_=>exact RV.dp _ v p h
end
@[irreducible] def gk(neg:Bool)(x y:D)(A:Ar)(R:DK):Prop:=iM A x=true/\iM A y=true/\(c_ A x).canLay0=true/\(c_ A y).canLay0=true/\min (c_ A x).depth (c_ A y).depth<=64/\R (.bl (if neg then !PyData.eqv (c_ A x) (c_ A y) else PyData.eqv (c_ A x) (c_ A y))) A
def rC:d8:=λx y A R=>match x,y with
 |.int i,.int j=>R (.bl (decide (i=j))) A
 |.str a,.str b=>R (.bl (decide (a=b))) A
 |.bl a,.bl b=>R (.bl (decide (a=b))) A
 |x,y=>gk false x y A R
def sC:d8:=λx y A R=>match x,y with
 |.int i,.int j=>R (.bl (!decide (i=j))) A
 |.str a,.str b=>R (.bl (!decide (a=b))) A
 |.bl a,.bl b=>R (.bl (!decide (a=b))) A
 |x,y=>gk true x y A R
theorem C9{X:Cx}(a:X.A.units+64<cLine):a_ X (compareOp .Eq) (λx y H Q=>yj x y H Q\/yk X.K x y H Q):=MG.or (MH a)
theorem C_{X:Cx}(a:X.A.units+64<cLine):a_ X (compareOp .NotEq) (λx y H Q=>yo x y H Q\/yp X.K x y H Q):=MS.or (MT a)
theorem AK{mg:aq}{K:Frag}:dJ mg (λx y H Q=>yj x y H Q\/yk K x y H Q) rC:=by
 intro x y A ι H u v R Q ra a b h k;unfold rC at h;split at h
 .cases a;cases b
  rename_i i j;refine .inl ⟨rfl,?_⟩;have e:decide (V.int i=V.int j)=decide (i=j):=by simp
  rw[e];exact k.here ra h rfl
 .cases a;cases b
  rename_i i j;refine .inl ⟨rfl,?_⟩;have e:decide (V.str i=V.str j)=decide (i=j):=by simp
  rw[e];exact k.here ra h rfl
 .cases a;cases b
  rename_i i j;refine .inl ⟨rfl,?_⟩;have e:decide (V.bl i=V.bl j)=decide (i=j):=by simp
  rw[e];exact k.here ra h rfl
 .unfold gk at h
  obtain⟨c,p2,d,f,hd,q⟩:=h;exact .inr ⟨_,_,ra.dp c a,ra.dp p2 b,d,f,hd,k.here ra q rfl⟩
theorem AO{mg:aq}{K:Frag}:dJ mg (λx y H Q=>yo x y H Q\/yp K x y H Q) sC:=by
 intro x y A ι H u v R Q ra a b h k;unfold sC at h;split at h
 .cases a;cases b
  rename_i i j;refine .inl ⟨rfl,?_⟩;have e:decide (V.int i=V.int j)=decide (i=j):=by simp
  rw[e];exact k.here ra h rfl
 .cases a;cases b
  rename_i i j;refine .inl ⟨rfl,?_⟩;have e:decide (V.str i=V.str j)=decide (i=j):=by simp
  rw[e];exact k.here ra h rfl
 .cases a;cases b
  rename_i i j;refine .inl ⟨rfl,?_⟩;have e:decide (V.bl i=V.bl j)=decide (i=j):=by simp
  rw[e];exact k.here ra h rfl
 .unfold gk at h
  obtain⟨c,p2,d,f,hd,q⟩:=h;exact .inr ⟨_,_,ra.dp c a,ra.dp p2 b,d,f,hd,k.here ra q rfl⟩
def fR:D->Option Key
 |.int i=>some (.inl i)
 |.str x=>some (.inr x)
 |_=>none
def bf:List (Key×D)->Key->Option D
 |[],_=>none
 |p::r,k=>if p.1=k then some p.2 else bf r k
@[irreducible] def jA(r:Nat)(y:D)(A:Ar)(R:DK):Prop:=match A[r]? with
 |some (.lst xs)=>(match y with
  |.int i=>(match cM xs i with
   |some v=>R v A
   |none=>False)
  |_=>False)
 |some (.dct kvs)=>(match fR y with
  |some k=>(match bf kvs k with
   |some v=>R v A
   |none=>False)
  |none=>False)
 |some (.bx _ kvs)=>(match fR y with
  |some k=>(match bf kvs k with
   |some v=>R v A
   |none=>False)
  |none=>False)
 |_=>False
def rV:d8:=λx y A R=>match x,y with
 |.tup xs,.int i=>match cM xs i with
  |some v=>R v A
  |none=>False
 |.str z,.int i=>match cM z.cps.toList i with
  |some c=>z.length<=sizeLine/\R (.str ⟨#[c]⟩) A
  |none=>False
 |.fl ns,.int i=>match cM ns i with
  |some c=>R (.int c) A
  |none=>False
 |.ref r,y=>jA r y A R
 |_,_=>False
section
variable{mg:aq}{K:Frag}{A:Ar}{ι:Io}{H:Hp}
theorem aj.cM{n:Nat}{ds:List D}{a:List V}{i:Int}{d:D}(r:aj mg ι n H ds a)(h:L2.cM ds i=some d):∃v,L2.cM a i=some v/\RV mg ι n H d v:=by
 unfold L2.cM at h ⊢;rw[<-aj.length r];cases q:jc ds.length i with
 |none=>rw[q] at h;cases h
 |some j=>
  rw[q] at h;exact aj.get r h
theorem GL{α β:Type}(f:α->β)(xs:List α)(i:Int):L2.cM (xs.map f) i=(L2.cM xs i).map f:=by
 unfold L2.cM;rw[aR];cases jc xs.length i with
 |none=>rfl
 |some j=>simp
theorem RK.get{n:Nat}:∀{kvs:List (Key×D)} {xs:List (Key×V)} {k:Key},RK mg ι n H kvs xs->(∀d,bf kvs k=some d->∃v,eG xs k=some v/\RV mg ι n H d v)/\(bf kvs k=none->eG xs k=none)
 |[],xs,k,h=>by
  cases (show xs=[] from h);exact⟨λd e=>by simp[bf] at e,λ_=>rfl⟩
 |p::r,xs,k,h=>by
  obtain⟨x,r',rfl,h1,h2⟩:=h;obtain⟨b,c⟩:=RK.get (k:=k) h2;unfold bf;by_cases a:p.1=k
  .rw[aA a]
   have e:eG ((p.1,x)::r') k=some x:=by simp[eG,a]
   rw[e];exact⟨λd z=>by cases z;exact⟨x,rfl,h1⟩,λz=>by cases z⟩
  .rw[ay a]
   have e:eG ((p.1,x)::r') k=eG r' k:=by simp[eG,jL,a]
   rw[e];exact⟨b,c⟩
theorem kZ{n:Nat}{y:D}{v:V}{k:Key}(h:fR y=some k)(r:RV mg ι n H y v):v=kV k:=by
 cases y with
 |int i=>cases h;exact r
 |str x=>cases h;exact r
 |_=>cases h
end
def DL:R2:=λx y H Q=>∃a v,x=.ref a/\mD H a y (some v)/\Q v H
theorem K7{X:Cx}(i:X.A.units+64<cLine):iE X DL:=by
 intro value slice pins s σ H x y v u Q I c d h e;obtain⟨a,z,rfl,g,q⟩:=h;cases c;exact tail_any (Ip I g) PySem.F.slot_dict_getitem.lookup (HL (by omega) I g d λj k f b=>⟨z,H,f,b,q⟩) e
abbrev DJ(K:Frag):R2:=λx y H Q=>DI K x y H Q\/DL x y H Q
theorem KS{X:Cx}(a:X.A.units+64<cLine):iE X (DJ X.K):=K9.or (K7 a)
theorem HQ{mg:aq}{K:Frag}:dJ mg (DJ K) rV:=by
 intro x y A ι H u v R Q ra i f h k;unfold rV at h;split at h
 .obtain⟨a,xs,rfl,j,b⟩:=i
  cases f;split at h
  .rename_i d e
   obtain⟨z,hz,c⟩:=b.cM e;exact .inl (.inr (.inl ⟨a,xs,_,z,rfl,rfl,bu.of j,hz,k.here ra h c⟩))
  .exact h.elim
 .cases i;cases f
  split at h
  .rename_i d e
   exact .inl (.inr (.inr ⟨_,_,_,rfl,rfl,h.1,e,k.here ra h.2 rfl⟩))
  .exact h.elim
 .obtain⟨a,o,rfl,j⟩:=i
  cases f;split at h
  .rename_i d e
   exact .inl (.inl ⟨a,_,_,_,rfl,rfl,.inl (.inr ⟨o,j⟩),by rw[GL,e];rfl,k.here ra h rfl⟩)
  .exact h.elim
 .obtain⟨_,rfl⟩:=i
  unfold jA at h;split at h
  .rename_i xs e
   obtain⟨g,h1,b⟩:=ra.lst e;split at h
   .cases f
    split at h
    .rename_i d e
     obtain⟨z,hz,c⟩:=b.cM e;exact .inl (.inl ⟨_,g,_,z,rfl,rfl,aS.of h1,hz,k.here ra h c⟩)
    .exact h.elim
   .exact h.elim
  .rename_i kvs e
   obtain⟨g,h1,b⟩:=ra.dct e;split at h
   .rename_i l m
    cases kZ m f;split at h
    .rename_i d n
     obtain⟨z,hz,c⟩:=(RK.get b).1 d n;exact .inr ⟨_,z,rfl,.inl ⟨g,l,.inl h1,rfl,hz.symm⟩,k.here ra h c⟩
    .exact h.elim
   .exact h.elim
  .rename_i o kvs e
   obtain⟨g,h1,b⟩:=ra.bx e;split at h
   .rename_i l m
    cases kZ m f;split at h
    .rename_i d n
     obtain⟨z,hz,c⟩:=(RK.get b).1 d n;exact .inr ⟨_,z,rfl,.inl ⟨g,l,.inr ⟨o,h1⟩,rfl,hz.symm⟩,k.here ra h c⟩
    .exact h.elim
   .exact h.elim
  .exact h.elim
 .exact h.elim
theorem Ia{X:Cx}{N:En}{pos:Pos}{a b:Expr}{ma mb:aM}(c:X.A.units+64<cLine)(d:PE X a (up X.mg N ma))(e:PE X b (up X.mg N mb))(f:vj b):PE X (.Subscript a b pos) (up X.mg N (dm rV ma mb)):=
 dZ (Nc (KS c) d e f) λ_ _ _ h=>uy HQ h
structure jN where
 nx:bq->Ar->Prop
 rt:DK
 bk:bq->Ar->Prop:=λ_ _=>False
 ct:bq->Ar->Prop:=λ_ _=>False
abbrev cZ:=jN->bq->Ar->Prop
def iU(mg:aq)(A:Ar)(ι:Io)(H:Hp)(R:bq->Ar->Prop)(Q:L2.St->Hp->Prop):Prop:=∀τ A' ι' σ H',R τ A'->Ext A ι H A' ι' H'->RA mg ι' H' A'->RS mg ι' A'.length H' τ σ->Q σ H'
structure qI(mg:aq)(A:Ar)(ι:Io)(H:Hp)(R:jN)(Q:Ends):Prop where
 nx:iU mg A ι H R.nx Q.nx
 rt:Kt mg A ι H R.rt Q.rt
 bk:iU mg A ι H R.bk Q.bk
 ct:iU mg A ι H R.ct Q.ct
def bB(mg:aq)(N:En)(m:cZ):TS:=λQ σ H=>∃A ι τ R,dj mg N A ι τ σ H/\m R τ A/\qI mg A ι H R Q
section
variable{mg:aq}{N:En}{A A':Ar}{ι ι':Io}{τ bI:bq}{σ σ':L2.St}{H H':Hp}
theorem iU.from{R:bq->Ar->Prop}{Q:L2.St->Hp->Prop}(k:iU mg A ι H R Q)(e:Ext A ι H A' ι' H'):iU mg A' ι' H' R Q:=λτ b a σ H2 q c=>k τ b a σ H2 q (e.trans c)
theorem qI.from{R:jN}{Q:Ends}(k:qI mg A ι H R Q)(e:Ext A ι H A' ι' H'):qI mg A' ι' H' R Q:=⟨k.nx.from e,k.rt.from e,k.bk.from e,k.ct.from e⟩
theorem iU.here{R:bq->Ar->Prop}{Q:L2.St->Hp->Prop}(k:iU mg A ι H R Q)(S:dj mg N A ι τ σ H)(q:R τ A):Q σ H:=k τ A ι σ H q S.ra.refl S.ra S.rs
theorem dj.to(S:dj mg N A ι τ σ H)(e:Ext A ι H A' ι' H')(r:RA mg ι' H' A')(s:RS mg ι' A'.length H' bI σ'):dj mg N A' ι' bI σ' H':=⟨r,s,S.ex.trans e⟩
theorem CI:∀(τ:bq) (i:Nat) (d:D),i<τ.length->lk (τ.set i (some d)) i=some d
 |[],i,d,h=>by simp at h
 |x::r,0,d,_=>rfl
 |x::r,i+1,d,h=>CI r i d (by simpa using h)
theorem CH:∀(τ:bq) (i j:Nat) (d:Option D),j≠i->lk (τ.set i d) j=lk τ j
 |[],i,j,d,_=>rfl
 |x::r,0,0,d,h=>absurd rfl h
 |x::r,0,j+1,d,_=>rfl
 |x::r,i+1,0,d,_=>rfl
 |x::r,i+1,j+1,d,h=>CH r i j d (by omega)
theorem RS.set{n:Nat}{i:Nat}{d:D}{v:V}(r:RS mg ι n H τ σ)(h:RV mg ι n H d v):RS mg ι n H (τ.set i (some d)) (σ.set i (some v)):=⟨by simp[r.len],λj e q=>by
 by_cases a:j=i
 .subst a
  by_cases hl:j<τ.length
  .rw[CI _ _ _ hl] at q
   cases q;refine⟨v,?_,h⟩;rw[fu (by rw[<-r.len];exact hl)]
  .rw[List.set_eq_of_length_le (by omega)] at q
   rw[sd,mj (by omega)] at q;cases q
 .rw[CH _ _ _ _ a] at q
  obtain⟨w,h1,h2⟩:=r.at' j e q;exact⟨w,by rw[fm (Ne.symm a)];exact h1,h2⟩⟩
theorem dj.set{i:Nat}{d:D}{v:V}(S:dj mg N A ι τ σ H)(h:RV mg ι A.length H d v):dj mg N A ι (τ.set i (some d)) (σ.set i (some v)) H:=⟨S.ra,S.rs.set h,S.ex⟩
end
def Ec:cZ:=λR τ A=>R.nx τ A
def pZ(t u:cZ):cZ:=λR τ A=>t {R with nx:=u R} τ A
def pY(m:aM):cZ:=λR τ A=>m τ A λ_ A1=>R.nx τ A1
def OJ(m:aM):cZ:=λR τ A=>m τ A R.rt
def nB(c:ef)(t u:cZ):cZ:=λR τ A=>c τ A λb A1=>cond b (t R τ A1) (u R τ A1)
section
variable{X:Cx}{N:En}{pos:Pos}{st:Stmt}{rest:List Stmt}{t u:cZ}{e:Expr}{m:aM}
theorem cE:dB X [] (bB X.mg N Ec):=Bo N2 λQ σ H q=>by
 obtain⟨A,ι,τ,R,S,q,k⟩:=q;exact k.nx.here S q
theorem aE(h1:PS X st (bB X.mg N t))(h2:dB X rest (bB X.mg N u)):dB X (st::rest) (bB X.mg N (pZ t u)):=Bo (N1 h1 h2) λQ σ H q=>by
 obtain⟨A,ι,τ,R,S,q,k⟩:=q;exact⟨A,ι,τ,_,S,q,⟨λa d b e H1 f c g h=>⟨d,b,a,R,S.to c g h,f,k.from c⟩,k.rt,k.bk,k.ct⟩⟩
theorem aH(h1:PS X st (bB X.mg N t)):dB X [st] (bB X.mg N t):=N3 h1
theorem gm(b:PE X e (up X.mg N m))(c:swapsWith e none pos.line X.env=pure false:=by rfl):PS X (.Expr e pos) (bB X.mg N (pY m)):=gG (NS b c) λQ σ H q=>by
 obtain⟨A,ι,τ,R,S,q,k⟩:=q;exact⟨A,ι,τ,_,S,q,λv h d H1 u f a g i=>(k.nx.from a).here (S.next a g) f⟩
theorem aT(a:PE X e (up X.mg N m)):PS X (.Return (some e) pos) (bB X.mg N (OJ m)):=gG (NX a) λQ σ H q=>by
 obtain⟨A,ι,τ,R,S,q,k⟩:=q;exact⟨A,ι,τ,_,S,q,k.rt⟩
theorem cz{c:Expr}{a b:List Stmt}{tc:ef}(hc:PT X c (cH X.mg N tc))(i:dB X a (bB X.mg N t))(j:dB X b (bB X.mg N u)):PS X (.If c a b pos) (bB X.mg N (nB tc t u)):=gG (NU hc i j) λQ σ H q=>by
 obtain⟨A,ι,τ,R,S,q,k⟩:=q;refine⟨A,ι,τ,_,S,q,λx f d H1 g e h=>?_⟩;cases x with
 |true=>rw[aA rfl];exact⟨f,d,τ,R,S.next e h,g,k.from e⟩
 |false=>rw[ay b9];exact⟨f,d,τ,R,S.next e h,g,k.from e⟩
end
abbrev iS:=D->bq->Ar->(bq->Ar->Prop)->Prop
abbrev mE:=List D->bq->Ar->(bq->Ar->Prop)->Prop
def lN(mg:aq)(N:En)(g:iS):TG:=λv σ H Q=>∃A ι τ d R,dj mg N A ι τ σ H/\RV mg ι A.length H d v/\g d τ A R/\iU mg A ι H R Q
def uv(mg:aq)(N:En)(g:mE):iW:=λvs σ H Q=>∃A ι τ ds R,dj mg N A ι τ σ H/\aj mg ι A.length H ds vs/\g ds τ A R/\iU mg A ι H R Q
def gN(i:Nat):iS:=λd τ A R=>R (τ.set i (some d)) A
def BX:mE:=λds τ A R=>match ds with
 |[]=>R τ A
 |_=>False
def JZ(g:iS)(h:mE):mE:=λds τ A R=>match ds with
 |d::r=>g d τ A λzh A1=>h r zh A1 R
 |[]=>False
def gT(n:Nat)(g:mE):iS:=λd τ A R=>match d with
 |.tup ds=>ds.length=n/\g ds τ A R
 |_=>False
def D9(m:aM)(g:iS):cZ:=λR τ A=>m τ A λv A1=>g v τ A1 R.nx
section
variable{X:Cx}{N:En}{pos:Pos}{e tg:Expr}{es:List Expr}{m:aM}{g:iS}{gs:mE}
theorem Be{t t':TG}(h:PG X tg t)(w:∀v σ H Q,t' v σ H Q->t v σ H Q):PG X tg t':=λpins s σ H v u Q I r q=>h pins s σ H v u Q I r (w v σ H Q q)
theorem Bf{t t':iW}(h:iV X es t)(w:∀v σ H Q,t' v σ H Q->t v σ H Q):iV X es t':=λpins s σ H v u Q I r q=>h pins s σ H v u Q I r (w v σ H Q q)
theorem Ik{i:Nat}{x:Str}(a:X.N.Nodup)(hi:X.N[i]?=some x)(b:Loc X.env.scope x)(c:X.fn x=true\/X.env.scope.names.lookup x=some .local:=by first|exact .inl rfl|exact .inr rfl|assumption):PG X (.Name x pos) (lN X.mg N (gN i)):=
 Be (Dq a hi b c) λv σ H Q q=>by
  obtain⟨A,ι,τ,d,R,S,r,q,k⟩:=q;exact k.here (S.set r) q
theorem mS:iV X [] (uv X.mg N BX):=Bf ny λv σ H Q q=>by
 obtain⟨A,ι,τ,ds,R,S,r,q,k⟩:=q;unfold BX at q;split at q
 .exact⟨r,k.here S q⟩
 .exact q.elim
theorem f9(h1:PG X e (lN X.mg N g))(h2:iV X es (uv X.mg N gs))(f:(assignEach (e::es) X.env).map (·.2)=assign e X.env::(assignEach es X.env).map (·.2):=by rfl):iV X (e::es) (uv X.mg N (JZ g gs)):=
 Bf (gp h1 h2 f) λv σ H Q q=>by
  obtain⟨A,ι,τ,ds,R,S,r,q,k⟩:=q;cases ds with
  |nil=>exact q.elim
  |cons d ds=>
   obtain⟨x,xs,rfl,h,i⟩:=r;refine⟨x,xs,rfl,A,ι,τ,d,_,S,h,q,λa j b l H1 m c a1 n=>?_⟩;exact⟨j,b,a,ds,R,S.to c a1 n,aj.ext c ds xs i,m,k.from c⟩
theorem mR{k n:Nat}(hc:X.calm=true)(h:iV X es (uv X.mg N gs))(c:(assignEach es X.env).length=n:=by rfl)(b:(assignEach es X.env).findIdx? (·.1)=none:=by rfl):PG X (.Tuple es k pos) (lN X.mg N (gT n gs)):=
 Be (nv hc h c b) λv σ H Q q=>by
  obtain⟨A,ι,τ,d,R,S,r,q,k⟩:=q;cases d with
  |tup ds=>
   obtain⟨a,xs,rfl,h1,h2⟩:=r;exact⟨a,xs,rfl,bu.of h1,by rw[<-aj.length h2];exact q.1,A,ι,τ,ds,R,S,h2,q.2,k⟩
  |_=>exact q.elim
theorem Q2{te:TE}{σ:L2.St}{H:Hp}{Q:Ends}(c:∀σ H Q,up X.mg N m σ H Q->te σ H Q)(q:bB X.mg N (D9 m g) Q σ H):um te (lN X.mg N g) Q σ H:=by
 obtain⟨A,ι,τ,R,S,q,k⟩:=q;exact c _ _ _ ⟨A,ι,τ,_,S,q,λv d a H1 u e b f h=>⟨d,a,τ,v,_,S.next b f,h,e,k.nx.from b⟩⟩
theorem Iv(a:PE X e (up X.mg N m))(b:PG X tg (lN X.mg N g))(c:swapsWithSole [tg] e pos.line X.env=pure false:=by rfl)(d:swappedStores [tg] e X.env=pure none:=by rfl)
 (h1:(assignEach [tg] X.env).map (·.2)=[assign tg X.env]:=by rfl):PS X (.Assign [tg] e pos) (bB X.mg N (D9 m g)):=gG (NP a b c d h1) λ_ _ _ q=>Q2 (λ_ _ _ h=>h) q
def lI(i:Nat)(m:aM):cZ:=λR τ A=>m τ A λv A1=>R.nx (τ.set i (some v)) A1
theorem Bm{i:Nat}{x:Str}{pos':Pos}(b:X.N.Nodup)(hi:X.N[i]?=some x)(c:Loc X.env.scope x)(d:PE X e (up X.mg N m))(f:swapsWith e (some (.Name x pos')) pos.line X.env=pure false:=by rfl)(g:X.fn x=true\/X.env.scope.names.lookup x=some .local:=by first|exact .inl rfl|exact .inr rfl|assumption):
  PS X (.Assign [.Name x pos'] e pos) (bB X.mg N (lI i m)):=gG (NY b hi c d f g) λQ σ H q=>by
 obtain⟨A,ι,τ,R,S,q,k⟩:=q;exact⟨A,ι,τ,_,S,q,λv o h H1 u j a l n=>(k.nx.from a).here ((S.next a l).set n) j⟩
def OG(i j:Nat)(n:dg):cZ:=λR τ A=>n τ A λvs A1=>match vs with
 |[v,w]=>R.nx ((τ.set i (some v)).set j (some w)) A1
 |_=>False
theorem Bl{i j:Nat}{x y:Str}{a b:Expr}{n:dg}{px py pt:Pos}{kt k2 d}(hc:X.calm=true)(h:X.N.Nodup)(hi:X.N[i]? =some x)(l:X.N[j]? =some y)(e:i≠j)
  (m:X.env.scope.names.lookup x=some .local)(o:X.env.scope.names.lookup y=some .local)(p:PA X [a,b] (fD X.mg N n))
  (r:swappedStores [.Tuple [.Name x px,.Name y py] kt pt] (.Tuple [a,b] k2 d) X.env=pure (some [x,y]))
  (s:swapsWithSole [.Tuple [.Name x px,.Name y py] kt pt] (.Tuple [a,b] k2 d) pos.line X.env=pure false:=by rfl):
  PS X (.Assign [.Tuple [.Name x px,.Name y py] kt pt] (.Tuple [a,b] k2 d) pos) (bB X.mg N (OG i j n)):=gG (NV hc h hi l e m o p r s) λQ σ H q=>by
 obtain⟨A,ι,τ,R,S,q,k⟩:=q
 refine⟨A,ι,τ,_,S,q,λt E u H1 F c g z f=> ?_⟩
 match t,c,f with
 |[v,w],c,f=>
  obtain⟨B,_,rfl,h1,C,_,rfl,h2,D⟩:=f
  obtain rfl:=D
  exact⟨B,C,rfl,(k.nx.from g).here (((S.next g z).set h1).set h2) c⟩
 |[],c,_=>exact c.elim
 |[_],c,_=>exact c.elim
 |_::_::_::_,c,_=>exact c.elim
end
abbrev DX:=Str->Ar->Prop
abbrev Ct:=List D->Ar->DK->DX->Prop
def GC(mg:aq)(A:Ar)(ι:Io)(H:Hp)(R:DX)(E:XK):Prop:=∀c A' ι' H' C,R c A'->mg c=some (.ref C)->Ext A ι H A' ι' H'->RA mg ι' H' A'->E (.ref C) none H'
def aB(mg:aq)(n:Nat)(S:Ct):Sp:=λvs H Q E=>∃A ι ds R RE,ds.length=n/\RA mg ι H A/\aj mg ι A.length H ds vs/\S ds A R RE/\Kt mg A ι H R Q/\GC mg A ι H RE E
def EL(mg:aq)(N:En)(R:DX):XK:=λC _ H'=>∃c A' ι',(∃a,C=.ref a/\mg c=some (.ref a))/\Ext N.A N.ι N.H A' ι' H'/\RA mg ι' H' A'/\R c A'
def oQ(n:Nat)(S:Ct)(RE:DX)(m:dg):aM:=λτ A R=>m τ A λvs A1=>vs.length=n/\S vs A1 R RE
section
variable{X:Cx}{N:En}{k n:Nat}{x:Str}{ps:List Str}{S:Ct}{RE:DX}{e:Expr}{es:List Expr}{m:dg}{p pos:Pos}
theorem H8(F:aD X.prog X.w X.K X.mg X.base k x ps (aB X.mg n S))(i:dD k X.A)(j:Passes (aY X.prog X.w) X (EL X.mg N RE))(l:PA X (e::es) (fD X.mg N m))(o:Gl X x:=by rfl)(a:(x==("__debug__":Str))=false:=by decide)
  (r:starEach (e::es) X.env=(false,eval e X.env)::starEach es X.env:=by rfl)(b:(backTo pos (starEach es X.env)).any (·.1)=false:=by rfl):
  PE X (.Call (.Name x p) (e::es) [] pos) (up X.mg N (oQ n S RE m)):=dZ (M6 F i j l o a r b) λσ H Q q=>by
 obtain⟨A,ι,τ,R,Z,q,k⟩:=q;refine⟨A,ι,τ,_,Z,q,λs t d H1 u g h v y=>?_⟩;show aB X.mg n S (u++[]) H1 Q (EL X.mg N RE);rw[kr];exact⟨t,d,s,R,RE,g.1,v,y,g.2,k.from h,λc z f H2 C B hc D E=>⟨c,z,f,⟨C,rfl,hc⟩,(Z.ex.trans h).trans D,E,B⟩⟩
end
def jF(n:Nat)(ds:List D):bq:=ds.map some++replicate n none
theorem xJ:∀(ds:List D) (n i:Nat) (d:D),lk (jF n ds) i=some d->ds[i]?=some d
 |[],n,i,d,h=>by
  rw[sd] at h;simp[jF,List.getElem?_replicate] at h;split at h<;>simp at h
 |x::r,n,0,d,h=>by simpa[jF,lk] using h
 |x::r,n,i+1,d,h=>by simpa using xJ r n i d h
theorem TopD.jv{P:Program}{w:World}{K:Frag}{mg:aq}{base:Heap}{x:Str}{st:Stmt}{Nm ps:List Str}{k n:Nat}{S:Ct}(T:TopD K mg x st ps)(Sc:bg Nm ps (aJ st))(B:ps.length=n)(W:ps.length<=Nm.length)
  (g:∀(N:En) (RE:DX) (X:Cx),X.prog=P->X.w=w->X.K=K->X.mg=mg->X.base=base->X.N=Nm->X.calm=true->X.ex=[]->(∃f j A outer s H E,X=bA (aY P w) P w K mg base Nm x (aJ st) f j A outer s H E)->dD k X.A->Raises X (EL X.mg N RE)->Passes (aY X.prog X.w) X (EL X.mg N RE)->
   ∀ds A R,S ds A R RE->ds.length=n->∃m,dB X (fP st) (bB X.mg N m)/\m {nx:=λ_ A'=>R .ai A',rt:=R} (jF (Nm.length - n) ds) A):aD P w K mg base (k+1) x ps (aB mg n S):=by
 refine T.fnX Sc (λD H Q E h=> ?_) λf j A outer s H D Q E F h=> ?_
 .obtain⟨A,ι,ds,R,RE,hl,_,o,_⟩:=h
  rw[<-aj.length o,hl,B]
 .obtain⟨p,l,ds,R,RE,hl,ra,o,G,u,J⟩:=h
  have y:∀C a H',EL mg ⟨p,l,H⟩ RE C a H'->E C none H':=λC a H' z=>by
   obtain⟨c,A',ι',⟨b,rfl,hc⟩,ex,r,q⟩:=z
   exact J c A' ι' H' b q hc ex r
  obtain⟨m,L,M⟩:=g ⟨p,l,H⟩ RE (bA (aY P w) P w K mg base Nm x (aJ st) f j A outer s H E) rfl rfl rfl rfl rfl rfl rfl rfl ⟨_,_,_,_,_,_,_,rfl⟩ F
   (λpins σ H1 t e h' C args I O z=>DV pins σ H1 t e h' C args I O (y _ _ _ z))
   (λpins σ H1 t e s' I z=>Dh pins σ H1 t e s' I (by
    obtain⟨a,C,H',h1,h2,U⟩:=z
    exact⟨a,C,H',h1,h2,y _ _ _ U⟩)) ds p R G hl
  have V:=aj.length o
  refine⟨_,L,p,l,_,_,⟨ra,⟨?_,λi d q=> ?_⟩,ra.refl⟩,M,⟨λτ A' ι' σ H' q e r _=>u _ A' ι' H' _ q e r rfl,u,λ_ _ _ _ _ q _ _ _=>q.elim,λ_ _ _ _ _ q _ _ _=>q.elim⟩⟩
  .simp[jF,L2.start]
   omega
  .obtain⟨v,h1,h2⟩:=aj.get o (xJ ds _ i d q)
   refine⟨v,?_,h2⟩
   have hi:=(bR.mp h1).1
   unfold L2.start
   rw[gz (by simpa using hi),bH,h1]
   rfl
abbrev iD:=List D->Ar->DK->Prop
def iQ(mg:aq)(r:List V->Hp->VK->Prop)(f:iD):Prop:=∀ds A ι H us R Q,RA mg ι H A->aj mg ι A.length H ds us->f ds A R->Kt mg A ι H R Q->r us H Q
def kM(f:iD)(m:dg):aM:=λτ A R=>m τ A λvs A1=>f vs A1 R
section
variable{X:Cx}{N:En}{e:Expr}{es:List Expr}{m:dg}{p pos:Pos}{f:iD}{r:List V->Hp->VK->Prop}{x:Str}{id T:String}
theorem Fv(h:iQ X.mg r f){σ:L2.St}{H:Hp}{Q:VK}(q:up X.mg N (kM f m) σ H Q):yG r (fD X.mg N m) σ H Q:=by
 obtain⟨A,ι,τ,R,S,q,k⟩:=q;exact⟨A,ι,τ,_,S,q,λb c a H1 d e g i j=>h b c a H1 d R Q i j e (k.from g)⟩
theorem dW(hc:eU X (.builtin id) r)(hd:iQ X.mg r f)(c:X.mg x=none)(d:bootBuiltins x=some (.builtin id))(g:PA X (e::es) (fD X.mg N m))(i:Gl X x:=by rfl)(j:x≠"__name__":=by decide)(a:(x==("__debug__":Str))=false:=by decide)
 (k:starEach (e::es) X.env=(false,eval e X.env)::starEach es X.env:=by rfl)(b:(backTo pos (starEach es X.env)).any (·.1)=false:=by rfl):PE X (.Call (.Name x p) (e::es) [] pos) (up X.mg N (kM f m)):=dZ (Dj hc i c d g j a k b) λ_ _ _ h=>Fv hd h
theorem gW(hc:eU X (.type T) r)(hd:iQ X.mg r f)(c:X.mg x=none)(d:bootBuiltins x=some (.type T))(g:PA X (e::es) (fD X.mg N m))(i:Gl X x:=by rfl)(j:x≠"__name__":=by decide)(a:(x==("__debug__":Str))=false:=by decide)
 (k:starEach (e::es) X.env=(false,eval e X.env)::starEach es X.env:=by rfl)(b:(backTo pos (starEach es X.env)).any (·.1)=false:=by rfl):PE X (.Call (.Name x p) (e::es) [] pos) (up X.mg N (kM f m)):=dZ (M5 hc i c d g j a k b) λ_ _ _ h=>Fv hd h
end
@[irreducible] def r8(r:Nat)(A:Ar)(R:DK):Prop:=match A[r]? with
 |some (.lst xs)=>R (.int xs.length) A
 |some (.dct kvs)=>R (.int kvs.length) A
 |_=>False
def rZ:iD:=λvs A R=>match vs with
 |[.tup xs]=>R (.int xs.length) A
 |[.str z]=>z.length<=sizeLine/\R (.int z.length) A
 |[.fl ns]=>R (.int ns.length) A
 |[.ref r]=>r8 r A R
 |_=>False
theorem RK.length{mg:aq}{ι:Io}{H:Hp}:∀{ds:List (Key×D)} {a:List (Key×V)} {n:Nat},RK mg ι n H ds a->ds.length=a.length
 |[],a,_,h=>by have h':a=[]:=h;rw[h'];rfl
 |d::ds,a,n,h=>by
  obtain⟨x,r,rfl,_,b⟩:=h;simp[RK.length b]
theorem eY{X:Cx}:eU X (.builtin "len") (λxs H Q=>(∃p ys,xs=[.ref p]/\(aS X.K H p ys\/bu X.K H p ys)/\Q (.int ys.length) H)\/(∃z,xs=[.str z]/\z.length<=sizeLine/\Q (.int z.length) H)\/∃a kvs,xs=[V.ref a]/\H a=some (.dK kvs)/\Q (.int kvs.length) H):=G5.or (G6.or G4)
theorem eu{mg:aq}{K:Frag}:iQ mg (λxs H Q=>(∃p ys,xs=[.ref p]/\(aS K H p ys\/bu K H p ys)/\Q (.int ys.length) H)\/(∃z,xs=[.str z]/\z.length<=sizeLine/\Q (.int z.length) H)\/∃a kvs,xs=[V.ref a]/\H a=some (.dK kvs)/\Q (.int kvs.length) H) rZ:=by
 intro ds A ι H c R Q ra rs h k;unfold rZ at h;split at h
 .obtain⟨_,_,rfl,⟨a,xs,rfl,d,b⟩,rfl⟩:=rs
  exact .inl ⟨a,xs,rfl,.inr (bu.of d),k.here ra h (by rw[aj.length b];rfl)⟩
 .obtain⟨_,_,rfl,rfl,rfl⟩:=rs
  exact .inr (.inl ⟨_,rfl,h.1,k.here ra h.2 rfl⟩)
 .obtain⟨_,_,rfl,⟨a,o,rfl,d⟩,rfl⟩:=rs
  exact .inl ⟨a,_,rfl,.inl (.inl (.inr ⟨o,d⟩)),k.here ra h (by rw[aR];rfl)⟩
 .obtain⟨_,_,rfl,⟨_,rfl⟩,rfl⟩:=rs
  unfold r8 at h;split at h
  .rename_i xs e
   obtain⟨c,h1,b⟩:=ra.lst e;exact .inl ⟨_,c,rfl,.inl (aS.of h1),k.here ra h (by rw[aj.length b];rfl)⟩
  .rename_i xs e
   obtain⟨c,h1,b⟩:=ra.dct e;exact .inr (.inr ⟨_,c,rfl,h1,k.here ra h (by rw[RK.length b];rfl)⟩)
  .exact h.elim
 .exact h.elim
@[irreducible] def sj(r:Nat)(A:Ar)(R:DK):Prop:=match A[r]? with
 |some (.lst xs)=>R (.ref A.length) (A++[.lst xs])
 |_=>False
def CM:iD:=λvs A R=>match vs with
 |[.tup xs]=>R (.ref A.length) (A++[.lst xs])
 |[.fl ns]=>R (.ref A.length) (A++[.lst (ns.map .int)])
 |[.ref r]=>sj r A R
 |_=>False
theorem HR{mg:aq}{K:Frag}:iQ mg (λxs H Q=>∃p ys,xs=[.ref p]/\(aS K H p ys\/bu K H p ys)/\∀l,H l=none->Q (.ref l) (upd H l (.lst ys))) CM:=by
 intro ds A ι H f R Q ra rs h k;unfold CM at h;split at h
 .obtain⟨_,_,rfl,⟨a,xs,rfl,c,d⟩,rfl⟩:=rs
  exact⟨a,xs,rfl,.inr (bu.of c),λp b=>jf k ra d h b⟩
 .obtain⟨_,_,rfl,⟨a,o,rfl,c⟩,rfl⟩:=rs
  exact⟨a,_,rfl,.inl (.inl (.inr ⟨o,c⟩)),λp b=>jf k ra (aj.ints _) h b⟩
 .obtain⟨_,_,rfl,⟨_,rfl⟩,rfl⟩:=rs
  unfold sj at h;split at h
  .rename_i xs e
   obtain⟨f,h1,d⟩:=ra.lst e;exact⟨_,f,rfl,.inl (aS.of h1),λp b=>jf k ra d h b⟩
  .exact h.elim
 .exact h.elim
@[irreducible] def uu(r:Nat)(A:Ar)(R:DK):Prop:=match A[r]? with
 |some (.lst xs)=>R (.tup xs) A
 |_=>False
def ur:iD:=λvs A R=>match vs with
 |[.tup xs]=>R (.tup xs) A
 |[.ref r]=>uu r A R
 |_=>False
theorem AQ{mg:aq}{K:Frag}:iQ mg (λxs H Q=>∃p ys,xs=[.ref p]/\((aS K H p ys/\∀l,H l=none->Q (.ref l) (upd H l (.tup ys)))\/(bu K H p ys/\Q (.ref p) H))) ur:=by
 intro ds A ι H c R Q ra rs h k;unfold ur at h;split at h
 .obtain⟨_,_,rfl,⟨a,xs,rfl,d,b⟩,rfl⟩:=rs
  exact⟨a,xs,rfl,.inr ⟨bu.of d,k.here ra h ⟨a,xs,rfl,d,b⟩⟩⟩
 .obtain⟨_,_,rfl,⟨_,rfl⟩,rfl⟩:=rs
  unfold uu at h;split at h
  .rename_i xs e
   obtain⟨c,h1,b⟩:=ra.lst e;exact⟨_,c,rfl,.inl ⟨aS.of h1,λp f=>sE k ra b h f⟩⟩
  .exact h.elim
 .exact h.elim
def iH:List D->Option (List Bool)
 |[]=>some []
 |.bl b::r=>(iH r).map (b::·)
 |_::_=>none
theorem Al{mg:aq}{ι:Io}{n:Nat}{H:Hp}:∀{ds:List D} {a:List V} {bs:List Bool},iH ds=some bs->aj mg ι n H ds a->a=bs.map V.bl
 |[],a,bs,h,r=>by cases h;exact r
 |d::ds,a,bs,h,r=>by
  obtain⟨x,r',rfl,h1,h2⟩:=r;cases d with
  |bl b=>
   cases q:iH ds with
   |none=>simp[iH,q] at h
   |some l=>
    simp[iH,q] at h;subst h;rw[Al q h2];cases h1;rfl
  |_=>simp[iH] at h
@[irreducible] def allR(r:Nat)(A:Ar)(R:DK):Prop:=match A[r]? with
 |some (.lst xs)=>(match iH xs with
  |some bs=>R (.bl (bs.all id)) A
  |none=>False)
 |_=>False
def Aa:iD:=λvs A R=>match vs with
 |[.ref r]=>allR r A R
 |_=>False
theorem vR{mg:aq}{K:Frag}:iQ mg (λxs H Q=>∃(p:Addr) (bs:List Bool),xs=[.ref p]/\aS K H p (bs.map V.bl)/\Q (.bl (bs.all id)) H) Aa:=by
 intro ds A ι H a R Q ra rs h k;unfold Aa at h;split at h
 .obtain⟨_,_,rfl,⟨_,rfl⟩,rfl⟩:=rs
  unfold allR at h;split at h
  .rename_i xs e
   split at h
   .rename_i bs b
    obtain⟨a,h1,c⟩:=ra.lst e;exact⟨_,bs,rfl,aS.of (by rw[h1,Al b c]),k.here ra h rfl⟩
   .exact h.elim
  .exact h.elim
 .exact h.elim
def kg(A:Ar):D->Option String
 |.ai=>some "NoneType"
 |.bl _=>some "bool"
 |.int _=>some "int"
 |.str _=>some "str"
 |.tup _=>some "tuple"
 |.fl _=>some "list"
 |.exc _=>none
 |.ref r=>match A[r]? with
  |some (.lst _)=>some "list"
  |some (.dct _)=>some "dict"
  |_=>none
def jz(t c:String):Bool:=t==c||(t=="bool"&&c=="int")
def HA(c:String)(m:aM):aM:=λτ A R=>m τ A λx A1=>match kg A1 x with
 |some t=>R (.bl (jz t c)) A1
 |none=>False
def tys:List String:=["NoneType","bool","int","str","tuple","list","dict"]
theorem QX{A:Ar}{d:D}{t:String}(h:kg A d=some t):t∈tys:=by
 cases d with
 |ref r=>
  unfold kg at h;simp only at h;split at h<;>first|(cases h;decide)|cases h
 |exc c=>cases h
 |_=>cases h;decide
theorem RA.ty{mg:aq}{K:Frag}{A:Ar}{ι:Io}{H:Hp}(ra:RA mg ι H A){d:D}{v:V}{t:String}(h:kg A d=some t)(r:RV mg ι A.length H d v):oE K H v (.type t):=by
 cases d with
 |ai=>cases h;cases r;exact .of .ai
 |bl b=>cases h;cases r;exact .of (.bl b)
 |int b=>cases h;cases r;exact .of (.int b)
 |str b=>cases h;cases r;exact .of (.str b)
 |tup ds=>cases h;obtain⟨a,xs,rfl,e,_⟩:=r;exact .of (.tup e)
 |fl ns=>cases h;obtain⟨a,o,rfl,e⟩:=r;exact .of (.bz e)
 |exc c=>cases h
 |ref q=>
  obtain⟨_,rfl⟩:=r;unfold kg at h;simp only at h;split at h
  .rename_i xs e
   cases h;obtain⟨f,h1,_⟩:=ra.lst e;exact .of (.lst h1)
  .rename_i xs e
   cases h;obtain⟨f,h1,_⟩:=ra.dct e;exact .of (.dK h1)
  .cases h
section
variable{X:Cx}{N:En}{e:Expr}{es:List Expr}{m:aM}{p p2 pos:Pos}{x:Str}{c:String}
theorem gD(n:∀t∈tys,kitOne X.K (.type t) (.type c)=some (jz t c))(o:X.mg "isinstance"=none)(b:X.mg x=none)(d:bootBuiltins x=some (.type c))(r:PE X e (up X.mg N m))(s:Gl X "isinstance":=by rfl)(f:Gl X x:=by rfl)(w:x≠"__name__":=by decide)(g:(x==("__debug__":Str))=false:=by decide)
  (h:starEach [e,.Name x p2] X.env=[(false,eval e X.env),(false,eval (.Name x p2) X.env)]:=by rfl):
  PE X (.Call (.Name "isinstance" p) [e,.Name x p2] [] pos) (up X.mg N (HA c m)):=by
 have y:PE X (.Name x p2) (tC (.ty c)):=M3 f b d rfl w g;refine dZ (Dj G2 s o boot_isinstance (yc r (yc y Df rfl) (by rw[h];rfl)) (by decide) (by decide) (by rw[h];rfl) rfl) λσ H Q q=>?_;obtain⟨A,ι,τ,R,S,q,k⟩:=q;refine⟨A,ι,τ,_,S,q,λv i z H1 u a B j C=>?_⟩;have a:(match kg i v with|some t=>R (.bl (jz t c)) i|none=>False):=a;split at a
 .rename_i t l
  exact⟨u,c,.type t,jz t c,rfl,j.ty l C,n t (QX l),(k.from B).here j a rfl⟩
 .exact a.elim
end
abbrev iR:=D->List D->Ar->DK->Prop
def kE(mg:aq)(K:Frag)(T:String)(r:V->List V->Hp->VK->Prop)(f:iR):Prop:=∀x ds A ι H u us R Q,RA mg ι H A->RV mg ι A.length H x u->aj mg ι A.length H ds us->f x ds A R->Kt mg A ι H R Q->r u us H Q
def kX(A:Ar):D->Bool
 |.ref r=>match A[r]? with
  |some (.lst _)=>true
  |_=>false
 |_=>false
def qY(f:iR)(mo:aM)(m:dg):aM:=λτ A R=>mo τ A λx A1=>kX A1 x=true/\m τ A1 λvs A2=>f x vs A2 R
theorem RA.kX{mg:aq}{K:Frag}{A:Ar}{ι:Io}{H:Hp}(ra:RA mg ι H A){d:D}{v:V}(h:kX A d=true)(r:RV mg ι A.length H d v):yR K "list" v H:=by
 cases d with
 |ref q=>
  obtain⟨_,rfl⟩:=r;unfold DP.kX at h;simp only at h;split at h
  .rename_i xs e
   obtain⟨a,h1,_⟩:=ra.lst e;exact .inl ⟨rfl,a,aS.of h1⟩
  .cases h
 |_=>cases h
section
variable{X:Cx}{N:En}{e o:Expr}{es:List Expr}{mo:aM}{m:dg}{apos cpos:Pos}{f:iR}{r:V->List V->Hp->VK->Prop}{name:Str}{id:String}
theorem gX(t:PlainAttrs "list")(slot:Slot "list" name id)(g:typeOf (.builtin id)=pure (.type "method_descriptor"))(v:oj X id r)(hd:kE X.mg X.K "list" r f)(w:PE X o (up X.mg N mo))(y:PA X (e::es) (fD X.mg N m))
  (b:attributeBase o name X.env (eval o X.env)=eval o X.env:=by rfl)
  (d:((backTo cpos (starEach (e::es) X.env)).all (λx=> !x.1)&&(backToKw cpos (keywordEach [] X.env)).all (λx=>x.1.isSome)
   &&decide ((e::es).length+([]:List Keyword).length+(if ([]:List Keyword).isEmpty then 0 else 1)<30))=true:=by rfl)
  (c:(apos.endLine==cpos.line)=true:=by rfl)(z:starEach (e::es) X.env=(false,eval e X.env)::starEach es X.env:=by rfl)(a:(backTo cpos (starEach es X.env)).any (·.1)=false:=by rfl):
  PE X (.Call (.Attribute o name apos) (e::es) [] cpos) (up X.mg N (qY f mo m)):=dZ (Di t slot g v w y b d c z a) λσ H Q q=>by
 obtain⟨A,ι,τ,R,S,q,k⟩:=q
 refine⟨A,ι,τ,_,S,q,λx B h H1 u j l n p=> ?_⟩
 refine⟨n.kX j.1 p,B,h,τ,_,S.next l n,j.2,λys C i H2 D E s F v2=> ?_⟩
 exact hd x ys C i H2 u D R Q F (RV.ext s x u p) v2 E (k.from (l.trans s))
end
theorem DC{mg:aq}{A:Ar}{ι:Io}{H:Hp}{R:DK}{Q:VK}{ds es:List D}{xs ys:List V}{q:Nat}{d:D}{v:V}(k:Kt mg A ι H R Q)(r:RA mg ι H A)(a:A[q]?=some (.lst ds))(b:H (ι q)=some (.lst xs))(h:aj mg ι A.length H es ys)
  (c:R d (A.set q (.lst es)))(hd:∀H',RV mg ι A.length H' d v):Q v (upd H (ι q) (.lst ys)):=by
 have E:Ext A ι H (A.set q (.lst es)) ι (upd H (ι q) (.lst ys)):=r.kR (bR.mp a).1;obtain⟨e,f⟩:=r.put (c':=.lst es) (o:=.lst ys) a b rfl ⟨ys,ee,by simpa using aj.ext E es ys h⟩;exact k _ _ _ _ _ c f e (by simpa using hd _)
@[irreducible] def qS(r:Nat)(y:D)(A:Ar)(R:DK):Prop:=match A[r]? with
 |some (.lst xs)=>xs.length<sizeLine/\R .ai (A.set r (.lst (xs++[y])))
 |_=>False
def qR:iR:=λx vs A R=>match x,vs with
 |.ref r,[y]=>qS r y A R
 |_,_=>False
theorem kN{mg:aq}{K:Frag}:kE mg K "list" yi qR:=by
 intro x ds A ι H u d R Q ra b rs h k;unfold qR at h;split at h
 .obtain⟨_,rfl⟩:=b
  obtain⟨v,_,rfl,c,rfl⟩:=rs;unfold qS at h;split at h
  .rename_i xs e
   obtain⟨ws,h1,a⟩:=ra.lst e;exact⟨_,ws,v,rfl,rfl,h1,by rw[<-aj.length a];exact h.1,DC k ra e h1 (a.app (es:=[_]) (ws:=[v]) ⟨v,[],rfl,c,rfl⟩) h.2 λ_=>rfl⟩
  .exact h.elim
 .exact h.elim
@[irreducible] def rD(r q:Nat)(A:Ar)(R:DK):Prop:=match A[r]?,A[q]? with
 |some (.lst xs),some (.lst ys)=>xs.length+ys.length<=sizeLine/\R .ai (A.set r (.lst (xs++ys)))
 |_,_=>False
def wA:iR:=λx vs A R=>match x,vs with
 |.ref r,[.ref q]=>rD r q A R
 |_,_=>False
theorem vS{mg:aq}{K:Frag}:kE mg K "list" yl wA:=by
 intro x ds A ι H u f R Q ra c rs h k;unfold wA at h;split at h
 .obtain⟨_,rfl⟩:=c
  obtain⟨v,_,rfl,⟨_,rfl⟩,rfl⟩:=rs;unfold rD at h;split at h
  .rename_i xs ys e d
   obtain⟨ws,h1,a⟩:=ra.lst e;obtain⟨zs,h2,b⟩:=ra.lst d;exact⟨_,_,ws,zs,rfl,rfl,h1,h2,by rw[<-aj.length a,<-aj.length b];exact h.1,DC k ra e h1 (a.app b) h.2 λ_=>rfl⟩
  .exact h.elim
 .exact h.elim
def OI(RE:DX)(c:Str)(m:dg):cZ:=λ_ τ A=>m τ A λvs A1=>vs.length<=sizeLine/\RE c A1
theorem v_{X:Cx}{N:En}{RE:DX}{x:Str}{C:Addr}{e:Expr}{m:dg}{np cpos pos:Pos}(f:Raises X (EL X.mg N RE))(hc:X.calm=true)(c:X.mg x=some (.ref C))(g:excIn X.K C uA "ValueError.__new__"=true)(h:PA X [e] (fD X.mg N m))(i:Gl X x:=by rfl)(a:(x==("__debug__":Str))=false:=by decide)
  (j:starEach [e] X.env=[(false,eval e X.env)]:=by rfl):PS X (.Raise (some (.Call (.Name x np) [e] [] cpos)) none pos) (bB X.mg N (OI RE x m)):=gG (NW f hc c g h i a j) λQ σ H q=>by
 obtain⟨A,ι,τ,R,S,q,k⟩:=q;exact⟨A,ι,τ,_,S,q,λr l b H1 s d n o p=>⟨by rw[<-aj.length p];exact d.1,x,l,b,⟨C,rfl,c⟩,S.ex.trans n,o,d.2⟩⟩
def iK:D->Bool
 |.int _|.str _=>true
 |_=>false
def oZ:D->D->Bool
 |.int i,.int j=>decide (i=j)
 |.str a,.str b=>decide (a=b)
 |_,_=>false
def m7(x:D)(xs:List D):Bool:=xs.any λy=>oZ y x
section
variable{mg:aq}{K:Frag}{A:Ar}{ι:Io}{H:Hp}{n:Nat}
theorem wH{d:D}{v:V}(h:iK d=true)(r:RV mg ι n H d v):i_ v=true:=by
 cases d with
 |int i=>cases r;rfl
 |str i=>cases r;rfl
 |_=>cases h
theorem IK{d e:D}{u v:V}(h1:iK d=true)(h2:iK e=true)(b:RV mg ι n H d u)(a:RV mg ι n H e v):gY u v=oZ d e:=by
 cases d with
 |int i=>
  cases b;cases e with
  |int j=>cases a;simp[gY,oZ,Bool.beq_eq_decide_eq]
  |str j=>cases a;rfl
  |_=>cases h2
 |str i=>
  cases b;cases e with
  |int j=>cases a;rfl
  |str j=>cases a;simp[gY,oZ,Bool.beq_eq_decide_eq]
  |_=>cases h2
 |_=>cases h1
theorem xr{x:D}{v:V}(b:iK x=true)(c:RV mg ι n H x v):∀{ds:List D} {a:List V},ds.all iK=true->aj mg ι n H ds a->rQ v a=m7 x ds/\a.all i_=true
 |[],a,_,r=>by cases (show a=[] from r);exact⟨rfl,rfl⟩
 |d::ds,a,h,r=>by
  obtain⟨y,r',rfl,h1,h2⟩:=r;have h':iK d=true/\ds.all iK=true:=by simpa using h
  obtain⟨e,f⟩:=xr b c h'.2 h2;constructor
  .show(gY y v||rQ v r')=(oZ d x||m7 x ds)
   rw[IK h'.1 b h1 c,e]
  .simp[wH h'.1 h1,f]
end
abbrev pW(neg:Bool):R2:=λx y H Q=>∃a o,y=.ref a/\mD H a x o/\Q (.bl (if neg then !o.isSome else o.isSome)) H
theorem xZ{X:Cx}(e:X.A.units+64<cLine):a_ X (compareOp .In) (pW false):=by
 intro pins s σ H x y v u Q I b c h;obtain⟨a,o,rfl,g,q⟩:=h;cases c;exact HN (by omega) I g b λf d=>⟨.bl o.isSome,H,d,rfl,q⟩
theorem Mu{X:Cx}(e:X.A.units+64<cLine):a_ X (compareOp .NotIn) (pW true):=by
 intro pins s σ H x y v u Q I b c h;obtain⟨a,o,rfl,g,q⟩:=h;cases c;exact HV (by omega) I g b λf d=>⟨.bl (!o.isSome),H,d,rfl,q⟩
@[irreducible] def inR(neg:Bool)(x:D)(r:Nat)(A:Ar)(R:DK):Prop:=match A[r]? with
 |some (.lst xs)=>iK x=true/\xs.all iK=true/\R (.bl (if neg then !m7 x xs else m7 x xs)) A
 |some (.dct kvs)=>(match fR x with
  |some k=>R (.bl (if neg then !(bf kvs k).isSome else (bf kvs k).isSome)) A
  |none=>False)
 |_=>False
def inD(neg:Bool):d8:=λx y A R=>match y with
 |.tup xs=>iK x=true/\xs.all iK=true/\R (.bl (if neg then !m7 x xs else m7 x xs)) A
 |.ref r=>inR neg x r A R
 |_=>False
theorem AL{mg:aq}{K:Frag}(neg:Bool):dJ mg (λx y H Q=>ym K neg x y H Q\/pW neg x y H Q) (inD neg):=by
 intro x y A ι H u v R Q ra c l h k;unfold inD at h;split at h
 .obtain⟨a,xs,rfl,m,f⟩:=l
  obtain⟨g,i⟩:=xr h.1 c h.2.1 f;exact .inl ⟨a,xs,rfl,.inr (bu.of m),wH h.1 c,i,by rw[g];exact k.here ra h.2.2 rfl⟩
 .obtain⟨_,rfl⟩:=l
  unfold inR at h;split at h
  .rename_i xs e
   obtain⟨j,h1,f⟩:=ra.lst e;obtain⟨g,i⟩:=xr h.1 c h.2.1 f;exact .inl ⟨_,j,rfl,.inl (aS.of h1),wH h.1 c,i,by rw[g];exact k.here ra h.2.2 rfl⟩
  .rename_i kvs e
   obtain⟨j,h1,f⟩:=ra.dct e;split at h
   .rename_i b n
    cases kZ n c;obtain⟨g,i⟩:=RK.get (k:=b) f;refine .inr ⟨_,eG j b,rfl,.inl ⟨j,b,.inl h1,rfl,rfl⟩,?_⟩;have o:(eG j b).isSome=(bf kvs b).isSome:=by
     cases q:bf kvs b with
     |none=>rw[i q];rfl
     |some d=>obtain⟨z,hz,_⟩:=g d q;rw[hz];rfl
    rw[o];exact k.here ra h rfl
   .exact h.elim
  .exact h.elim
 .exact h.elim
section
variable{X:Cx}{N:En}{pos:Pos}{a b c:Expr}{ma mb mc:aM}{x:Str}
theorem vr(i:Nat)(b:X.N[i]?=some x:=by rfl)(c:mH X.env.scope x:=by first|exact Or.inl rfl|exact Or.inr (Or.inl rfl)|exact Or.inr (Or.inr rfl))(hd:(x==("__debug__":Str))=false:=by decide)
 (a:(x==("__classdict__":Str))=false:=by decide):PE X (.Name x pos) (up X.mg N (dh i)):=Ih b c hd a
theorem rA(c:X.A.units+64<cLine)(d:PE X a (up X.mg N ma))(e:PE X b (up X.mg N mb)):PE X (.Compare a [.Eq] [b] pos) (up X.mg N (dm rC ma mb)):=vV (C9 c) AK d e (j6 _)
theorem jh(c:X.A.units+64<cLine)(d:PE X a (up X.mg N ma))(e:PE X b (up X.mg N mb)):PT X (.Compare a [.Eq] [b] pos) (cH X.mg N (f7 (dm rC ma mb))):=ju (C9 c) AK d e (j6 _)
theorem wj(c:X.A.units+64<cLine)(d:PE X a (up X.mg N ma))(e:PE X b (up X.mg N mb)):PE X (.Compare a [.NotEq] [b] pos) (up X.mg N (dm sC ma mb)):=vV (C_ c) AO d e (j6 _)
theorem j_(c:X.A.units+64<cLine)(d:PE X a (up X.mg N ma))(e:PE X b (up X.mg N mb)):PT X (.Compare a [.NotEq] [b] pos) (cH X.mg N (f7 (dm sC ma mb))):=ju (C_ c) AO d e (j6 _)
theorem yN(c:PE X a (up X.mg N ma))(d:PE X b (up X.mg N mb)):PT X (.Compare a [.Lt] [b] pos) (cH X.mg N (f7 (dm xM ma mb))):=ju Mt HS c d (j6 _)
theorem Fi(c:PE X a (up X.mg N ma))(d:PE X b (up X.mg N mb)):PT X (.Compare a [.Gt] [b] pos) (cH X.mg N (f7 (dm BZ ma mb))):=ju MJ HM c d (j6 _)
theorem QB(c:PE X a (up X.mg N ma))(d:PE X b (up X.mg N mb)):PT X (.Compare a [.Is] [b] pos) (cH X.mg N (f7 (dm xw ma mb))):=ju ML HP c d (j6 _)
theorem QC(c:PE X a (up X.mg N ma))(d:PE X b (up X.mg N mb)):PT X (.Compare a [.IsNot] [b] pos) (cH X.mg N (f7 (dm xY ma mb))):=ju MV HW c d (j6 _)
theorem yM(c:X.A.units+64<cLine)(d:PE X a (up X.mg N ma))(e:PE X b (up X.mg N mb))(f:behindInMarks .In b=false:=by rfl):PT X (.Compare a [.In] [b] pos) (cH X.mg N (f7 (dm (inD false) ma mb))):=ju (MK.or (xZ c)) (AL false) d e f
theorem nF(c:X.A.units+64<cLine)(d:PE X a (up X.mg N ma))(e:PE X b (up X.mg N mb))(f:behindInMarks .NotIn b=false:=by rfl):PT X (.Compare a [.NotIn] [b] pos) (cH X.mg N (f7 (dm (inD true) ma mb))):=ju (MU.or (Mu c)) (AL true) d e f
theorem wh(d:PE X a (up X.mg N ma))(e:PE X b (up X.mg N mb))(hc:PE X c (up X.mg N mc))(f:lastMarks [.LtE,.LtE] [b,c]=false:=by with_unfolding_all rfl):PE X (.Compare a [.LtE,.LtE] [b,c] pos) (up X.mg N (oR nc nc ma mb mc)):=H9 sH sH qZ qZ d e hc f
theorem Fj(d:PE X a (up X.mg N ma))(e:PE X b (up X.mg N mb))(hc:PE X c (up X.mg N mc))(f:lastMarks [.LtE,.LtE] [b,c]=false:=by with_unfolding_all rfl):PT X (.Compare a [.LtE,.LtE] [b,c] pos) (cH X.mg N (f7 (oR nc nc ma mb mc))):=IB sH sH qZ qZ d e hc f
end
theorem jv{P:Program}{w:World}{K:Frag}{mg:aq}{base:Heap}{x:Str}{st:Stmt}{Nm ps:List Str}{k n:Nat}{S:Ct}(T:TopD K mg x st ps)(Sc:bg Nm ps (aJ st))(c:ps.length=n)(d:ps.length<=Nm.length)
  (b:∀(N:En) (RE:DX) (f:Addr) (a:Value) (B:Around) (outer:List Env) (s:Shared) (H:Hp) (E:XK),dD k (bA (aY P w) P w K mg base Nm x (aJ st) f a B outer s H E).A->
   Raises (bA (aY P w) P w K mg base Nm x (aJ st) f a B outer s H E) (EL mg N RE)->Passes (aY P w) (bA (aY P w) P w K mg base Nm x (aJ st) f a B outer s H E) (EL mg N RE)->
   ∀ds A R,S ds A R RE->ds.length=n->∃m,dB (bA (aY P w) P w K mg base Nm x (aJ st) f a B outer s H E) (fP st) (bB mg N m)/\m {nx:=λ_ A'=>R .ai A',rt:=R} (jF (Nm.length - n) ds) A):aD P w K mg base (k+1) x ps (aB mg n S):=by
 refine TopD.jv T Sc c d λN RE X _ _ _ _ _ _ _ _ e g i j ds A R h hl=>?_;obtain⟨f,a,B,outer,s,H,E,rfl⟩:=e;exact b N RE f a B outer s H E g i j ds A R h hl
def OL(c:ef)(b:cZ):cZ:=λR τ A=>∃W:Nat->bq->Ar->Prop,(∃n,W n τ A)/\∀n τ A,W n τ A->c τ A λk A1=>cond k (∃Nx:bq->Ar->Prop,(∀bI A',Nx bI A'->∃n',n'<n/\W n' bI A')/\b {R with nx:=Nx,ct:=Nx,bk:=R.nx} τ A1) (R.nx τ A1)
section
variable{X:Cx}{N:En}{pos:Pos}{c:Expr}{body:List Stmt}{tc:ef}{tb:cZ}
theorem wc(y:PassesOwn (model X.prog X.w) X.A X.env X.xe)(hc:PT X c (cH X.mg N tc))(B:dB X body (bB X.mg N tb)):PS X (.While c body [] pos) (bB X.mg N (OL tc tb)):=gG (NZ y hc B) λQ σ H q=>by
 obtain⟨A,ι,τ,R,S,⟨W,⟨n,C⟩,turn⟩,k⟩:=q;refine⟨λn σ' H'=>∃A' ι' bI,dj X.mg N A' ι' bI σ' H'/\Ext A ι H A' ι' H'/\W n bI A',⟨n,A,ι,τ,S,S.ra.refl,C⟩,?_⟩;rintro m D H1 ⟨x,o,d,g,h,E⟩;refine⟨x,o,d,_,g,turn m d x E,λb F p H2 j a l=>?_⟩;cases b with
 |true=>
  rw[aA rfl];obtain⟨G,I,j⟩:=j;refine⟨λσ' H'=>∃A' ι' bI,dj X.mg N A' ι' bI σ' H'/\Ext A ι H A' ι' H'/\G bI A',λσ' H' ⟨A',ι',bI,J,K,z⟩=>?_,?_⟩
  .obtain⟨L,M,O⟩:=I bI A' z
   exact⟨L,M,A',ι',bI,J,K,O⟩
  .refine⟨F,p,d,_,g.next a l,j,⟨?_,k.rt.from (h.trans a),k.nx.from (h.trans a),?_⟩⟩
   .exact λe r f s P t i u v=>⟨r,f,e,(g.next a l).to i u v,(h.trans a).trans i,t⟩
   .exact λe r f s P t i u v=>⟨r,f,e,(g.next a l).to i u v,(h.trans a).trans i,t⟩
 |false=>
  rw[ay b9];exact(k.nx.from (h.trans a)).here (g.next a l) j
end
structure jo(mg:aq)(A0:Ar)(FO:Io)(H0:Hp)(J:It)(items:List D)(eZ:Ar->Prop):Prop where
 go:∀(i:Nat) d A ι H,items[i]? =some d->Ext A0 FO H0 A ι H->RA mg ι H A->eZ A->J.go i H/\∀x H',J.uB i H x H'->Ext A ι H A ι H'/\RA mg ι H' A/\RV mg ι A.length H' d x
 stop:∀A ι H,Ext A0 FO H0 A ι H->RA mg ι H A->eZ A->J.stop items.length H
abbrev gR:=bq->Ar->(List D->(Ar->Prop)->Ar->Prop)->Prop
def iy(mg:aq)(N:En)(m:gR):TI:=λσ H Q=>∃A ι τ R,dj mg N A ι τ σ H/\m τ A R/\∀items eZ A' ι' H' J,R items eZ A'->Ext A ι H A' ι' H'->RA mg ι' H' A'->jo mg A' ι' H' J items eZ->Q J H'
theorem mU{X:Cx}{tg e:Expr}{t t':TI}(h:PI X tg e t)(w:∀σ H Q,t' σ H Q->t σ H Q):PI X tg e t':=λpins s σ H Q I q=>h pins s σ H Q I (w σ H Q q)
section
variable{mg:aq}{K:Frag}{A:Ar}{ι:Io}{H:Hp}
theorem Lj{a:Addr}{ds:List D}{xs:List V}(f:H a=some (.tup xs))(g:aj mg ι A.length H ds xs):jo mg A ι H (ve K a) ds (λ_=>True) where
 go:=λi d h c H1 hd e r _=>by
  have b:=e.fix rfl f;obtain⟨v,h1,h2⟩:=aj.get (aj.ext e ds xs g) hd;refine⟨⟨xs,v,bu.of b,h1⟩,λx H' y=>?_⟩;obtain⟨rfl,y⟩:=y;have:=y xs (bu.of b);rw[h1] at this;cases this;exact⟨r.refl,r,h2⟩
 stop:=λh c H1 e r _=>⟨xs,bu.of (e.fix rfl f),by rw[aj.length g];exact aI _⟩
theorem Ld{a:Addr}{o:Obj}{ns:List Int}(f:H a=some (.bz o (.lst (ns.map V.int)))):jo mg A ι H (qG K a) (ns.map D.int) (λ_=>True) where
 go:=λi d g b H1 hd e r _=>by
  have c:aS K H1 a (ns.map V.int):=.inl (.inr ⟨o,e.fix rfl f⟩);obtain⟨v,h1,h2⟩:=aj.get (aj.ints (mg:=mg) (ι:=b) (H:=H1) ns (n:=g.length)) hd;refine⟨⟨_,v,c,h1⟩,λx H' y=>?_⟩;obtain⟨rfl,y⟩:=y;have:=y _ c;rw[h1] at this;cases this;exact⟨r.refl,r,h2⟩
 stop:=λg b H1 e r _=>⟨_,.inl (.inr ⟨o,e.fix rfl f⟩),by simp⟩
theorem Lf{q:Nat}{ds:List D}(b:q<A.length):jo mg A ι H (qG K (ι q)) ds (λA'=>A'[q]?=some (.lst ds)) where
 go:=λi d f a H1 hd e r hc=>by
  obtain⟨xs,h1,h2⟩:=r.lst hc;rw[e.ag q b] at h1;obtain⟨v,c,g⟩:=aj.get h2 hd;refine⟨⟨xs,v,aS.of h1,c⟩,λx H' y=>?_⟩;obtain⟨rfl,y⟩:=y;have:=y xs (aS.of h1);rw[c] at this;cases this;exact⟨r.refl,r,g⟩
 stop:=λf a H1 e r hc=>by
  obtain⟨xs,h1,h2⟩:=r.lst hc;rw[e.ag q b] at h1;exact⟨xs,aS.of h1,by rw[aj.length h2];exact aI _⟩
def dP(lo:Int)(n:Nat):List D:=(range n).map λ(i:Nat)=>D.int (lo+i)
theorem Lh{lo:Int}{n:Nat}:jo mg A ι H (qH lo n) (dP lo n) (λ_=>True) where
 go:=λi d c a H1 hd e r _=>by
  unfold dP at hd;rw[bH] at hd;cases q:(range n)[i]? with
  |none=>rw[q] at hd;cases hd
  |some j=>
   rw[q] at hd;have hi:=(bR.mp q).1;have b:=(bR.mp q).2;simp at hi b;subst b;cases hd;refine⟨hi,λx H' y=>?_⟩;obtain⟨rfl,rfl⟩:=y;exact⟨r.refl,r,rfl⟩
 stop:=λc a H1 e r _=>by
  show n<=_;simp[dP]
def jE(z:Str):List D:=z.cps.toList.map λc=>D.str ⟨#[c]⟩
theorem Li{z:Str}:jo mg A ι H (vd z) (jE z) (λ_=>True) where
 go:=λi d b a H1 hd e r _=>by
  unfold jE at hd;rw[bH] at hd;cases q:z.cps.toList[i]? with
  |none=>rw[q] at hd;cases hd
  |some j=>
   rw[q] at hd;cases hd;have hi:=(bR.mp q).1;refine⟨show i<z.cps.size by simpa using hi,λx H' y=>?_⟩;obtain⟨rfl,c,hc,rfl⟩:=y;have:z.cps.toList[i]?=some c:=by simpa using hc
   rw[q] at this;cases this;exact⟨r.refl,r,rfl⟩
 stop:=λb a H1 e r _=>by
  show _=_;simp[jE]
end
def KP(K:Frag)(tl:TE):TI:=λσ H R=>tl σ H λx H1=>(∃a,x=.ref a/\(∃xs,aS K H1 a xs)/\R (qG K a) H1)\/(∃a,x=.ref a/\(∃xs,bu K H1 a xs)/\R (ve K a) H1)
theorem Ny{X:Cx}{tg l:Expr}{tl:TE}(hl:PE X l tl):PI X tg l (KP X.K tl):=by
 intro pins s σ H R I h;refine aK (hl pins s σ H _ I h) λv c ⟨x,H1,d,i,j⟩=>?_;rcases j with⟨a,e,⟨xs,f⟩,q⟩|⟨a,e,⟨xs,f⟩,q⟩
 .subst e
  cases i;obtain⟨its,k,p,hz⟩:=d.list f;refine wpAny_pyIter_list p.isList ?_;refine⟨c.heap.objs.size,[c.heap.objs.size],_,_,H1,rfl,d.kept (t':=c.toks) λb o e=>bP _ e,QN a _,⟨_,eT _ rfl,rfl,rfl⟩,λb g=>?_,q⟩;have e:b=c.heap.objs.size:=by simpa using g
  subst e;exact d.jY (aI _) (d.hok.fresh (aI _))
 .subst e
  cases i;obtain⟨its,k,p,hz⟩:=d.tuple f;refine wpAny_pyIter_tuple (show c.heap.IsTuple a its.toArray from p) ?_;refine⟨c.heap.objs.size,[c.heap.objs.size],_,_,H1,rfl,d.kept (t':=c.toks) λb o e=>bP _ e,QV a _,⟨_,eT _ rfl,rfl,rfl⟩,λb g=>?_,q⟩;have e:b=c.heap.objs.size:=by simpa using g
  subst e;exact d.jY (aI _) (d.hok.fresh (aI _))
@[irreducible] def itR(r:Nat)(A:Ar)(R:List D->(Ar->Prop)->Ar->Prop):Prop:=match A[r]? with
 |some (.lst xs)=>R xs (λA'=>A'[r]?=some (.lst xs)) A
 |_=>False
def KN(m:aM):gR:=λτ A R=>m τ A λx A1=>match x with
 |.tup xs=>R xs (λ_=>True) A1
 |.fl ns=>R (ns.map .int) (λ_=>True) A1
 |.ref r=>itR r A1 R
 |_=>False
def KR(m:aM):gR:=λτ A R=>m τ A λx A1=>match x with
 |.str z=>R (jE z) (λ_=>True) A1
 |_=>False
def KH(n:dg):gR:=λτ A R=>n τ A λvs A1=>match vs with
 |[.int j]=> -(2 ^ 62)<=j/\j<2 ^ 62/\R (dP 0 j.toNat) (λ_=>True) A1
 |_=>False
section
variable{X:Cx}{N:En}{pos p:Pos}{tg e a b:Expr}{m:aM}{n:dg}{nm:Str}{px:Pos}
theorem d9(i:PE X e (up X.mg N m)):PI X tg e (iy X.mg N (KN m)):=mU (Ny i) λσ H Q q=>by
 obtain⟨A,ι,τ,R,S,q,k⟩:=q;refine⟨A,ι,τ,_,S,q,λx d c H1 u a g f h=>?_⟩;cases x with
 |tup ds=>
  obtain⟨b,xs,rfl,h1,h2⟩:=h;exact .inr ⟨b,rfl,⟨xs,bu.of h1⟩,k ds _ d c H1 _ a g f (Lj h1 h2)⟩
 |fl ns=>
  obtain⟨b,o,rfl,h1⟩:=h;exact .inl ⟨b,rfl,⟨_,.inl (.inr ⟨o,h1⟩)⟩,k _ _ d c H1 _ a g f (Ld h1)⟩
 |ref r=>
  obtain⟨j,rfl⟩:=h;have a:itR r d R:=a;unfold itR at a;split at a
  .rename_i xs e
   obtain⟨l,h1,_⟩:=f.lst e;exact .inl ⟨_,rfl,⟨l,aS.of h1⟩,k _ _ d c H1 _ a g f (Lf j)⟩
  .exact a.elim
 |_=>exact a.elim
theorem Im(c:PE X e (up X.mg N m)):PI X (.Name nm px) e (iy X.mg N (KR m)):=mU (Nz c) λσ H Q q=>by
 obtain⟨A,ι,τ,R,S,q,k⟩:=q;refine⟨A,ι,τ,_,S,q,λx d a H1 u b f g h=>?_⟩;cases x with
 |str z=>exact⟨z,h,k _ _ d a H1 _ b f g Li⟩
 |_=>exact b.elim
theorem mT(e:X.mg "range"=none)(f:PA X [a] (fD X.mg N n))(g:Gl X "range":=by rfl)(h:starEach [a] X.env=[(false,eval a X.env)]:=by rfl):PI X tg (.Call (.Name "range" p) [a] [] pos) (iy X.mg N (KH n)):=mU (Nu g e f h) λσ H Q q=>by
 obtain⟨A,ι,τ,R,S,q,k⟩:=q;refine⟨A,ι,τ,_,S,q,λx i c H1 u b l m d=>?_⟩;match x,b,d with
 |[.int j],b,d=>
  obtain⟨_,_,rfl,rfl,rfl⟩:=d;exact⟨j,rfl,b.1,b.2.1,k _ _ i c H1 _ b.2.2 l m Lh⟩
end
def mK(eZ:Ar->Prop)(g:iS)(b:cZ)(R:jN):List D->bq->Ar->Prop
 |[],τ,A=>eZ A/\R.nx τ A
 |x::xs,τ,A=>eZ A/\g x τ A λzh A1=>b {R with nx:=mK eZ g b R xs,ct:=mK eZ g b R xs,bk:=R.nx} zh A1
def Ea(it:gR)(g:iS)(b:cZ):cZ:=λR τ A=>it τ A λitems eZ A1=>mK eZ g b R items τ A1
theorem eB{X:Cx}{N:En}{pos:Pos}{tg iter:Expr}{body:List Stmt}{it:gR}{g:iS}{tb:cZ}(P:PassesOwn (model X.prog X.w) X.A X.env X.xe)(hc:X.calm=true)(hi:PI X tg iter (iy X.mg N it))(T:PG X tg (lN X.mg N g))(U:dB X body (bB X.mg N tb))
  (V:∀x,foldedSetIterable iter X.env x=pure x:=by intro _;rfl):PS X (.For tg iter body [] pos) (bB X.mg N (Ea it g tb)):=gG (NT P hc hi T U V) λQ σ H q=>by
 obtain⟨A,ι,τ,R,S,q,k⟩:=q;refine⟨A,ι,τ,_,S,q,λitems n v b H1 J W s M O=>?_⟩;have Y:=S.next s M;refine⟨λi m σ' H'=>m=items.length - i/\i<=items.length/\∃A' ι' bI,dj X.mg N A' ι' bI σ' H'/\Ext v b H1 A' ι' H'/\mK n g tb R (items.drop i) bI A',⟨_,rfl,cV _,v,b,τ,Y,M.refl,by simpa using W⟩,?_⟩;rintro i m Z H2 ⟨rfl,hi,B,c,C,d,f,h⟩;by_cases hl:i<items.length
 .right
  have hd:items.drop i=items[i]::items.drop (i+1):=by rw[kB hl]
  rw[hd] at h;obtain⟨o,h⟩:=h;obtain⟨g1,g2⟩:=O.go i items[i] B c H2 (by rw[bO hl]) f d.ra o;refine⟨g1,λσ' H'=>∃A' ι' bI,dj X.mg N A' ι' bI σ' H'/\Ext v b H1 A' ι' H'/\mK n g tb R (items.drop (i+1)) bI A',λσ' H' ⟨A',ι',bI,z⟩=>⟨_,by omega,rfl,hl,A',ι',bI,z⟩,λx H3 y=>?_⟩;obtain⟨p,t,v3⟩:=g2 x H3 y;refine⟨B,c,C,items[i],_,d.next p t,v3,h,λD A4 E Rg H4 q4 u F s4=>?_⟩;have a:=p.trans u;refine⟨A4,E,D,_,(d.next p t).to u F s4,q4,⟨?_,k.rt.from ((s.trans f).trans a),k.nx.from ((s.trans f).trans a),?_⟩⟩
  .exact λj G l I H5 K r L s5=>⟨G,l,j,((d.next p t).to u F s4).to r L s5,(f.trans a).trans r,K⟩
  .exact λj G l I H5 K r L s5=>⟨G,l,j,((d.next p t).to u F s4).to r L s5,(f.trans a).trans r,K⟩
 .left
  have e:i=items.length:=by omega
  subst e;rw[List.drop_length] at h;exact⟨O.stop B c H2 f d.ra h.1,(k.nx.from (s.trans f)).here d h.2⟩
def lM:Option Nat->D->Option (List D)
 |none,x=>some [x]
 |some k,.tup ds=>if ds.length=k then some ds else none
 |some _,_=>none
def iX(eZ:Ar->Prop)(k:Option Nat)(fr:bq)(tt:ef)(te:aM)(R:List D->Ar->Prop):List D->List D->Ar->Prop
 |[],ys,A=>eZ A/\R ys A
 |x::xs,ys,A=>eZ A/\match lM k x with
  |some vs=>tt (vs.map some++fr) A λb A3=>cond b (te (vs.map some++fr) A3 λy A4=>ys.length<sizeLine/\iX eZ k fr tt te R xs (ys++[y]) A4) (iX eZ k fr tt te R xs ys A3)
  |none=>False
def jT(k:Option Nat)(ix:List Nat)(it:gR)(tt:ef)(te:aM):aM:=λτ A R=>it τ A λitems eZ A1=>iX eZ k (ix.map (lk τ)) tt te (λys A2=>R (.ref A2.length) (A2++[.lst ys])) items [] A1
def o7:Nat->Nat->iW
 |_,0=>BO
 |i,n+1=>BN (mZ i) (o7 (i+1) n)
def nH(K:Frag):Option Nat->TG
 |none=>mZ 0
 |some k=>BP K k (o7 0 k)
theorem BY{Q:L2.St->Hp->Prop}{H:Hp}{fs:L2.St}:∀(xs:List V) (a:L2.St),Q (a++(xs.map some++fs)) H->o7 a.length xs.length xs (a++(replicate xs.length none++fs)) H Q
 |[],a,h=>⟨rfl,by simpa using h⟩
 |x::r,a,h=>by
  refine⟨x,r,rfl,?_⟩;show o7 (a.length+1) r.length r ((a++(replicate (r.length+1) none++fs)).set a.length (some x)) H Q;have e:(a++(replicate (r.length+1) none++fs)).set a.length (some x)=(a++[some x])++(replicate r.length none++fs):=by
   rw[List.set_append_right _ _ (aI _)];simp[jJ]
  rw[e];have:=BY r (a++[some x]) (by simpa using h);simpa using this
theorem Cw{fs:L2.St}:∀(xs:L2.St),fY (replicate xs.length none++fs) (xs++fs)
 |[]=>fY.refl fs
 |x::r=>.own (Cw r)
section
variable{mg:aq}{K:Frag}{A:Ar}{ι:Io}{H:Hp}
theorem QE{k:Option Nat}{d:D}{c:List D}{x:V}{n:Nat}(b:lM k d=some c)(r:RV mg ι n H d x):∃xs,aj mg ι n H c xs/\c.length=k.getD 1/\∀(fs:L2.St) (Q:L2.St->Hp->Prop),Q (xs.map some++fs) H->nH K k x (replicate (k.getD 1) none++fs) H Q:=by
 cases k with
 |none=>
  cases b;exact⟨[x],⟨x,[],rfl,r,rfl⟩,rfl,λfs Q q=>q⟩
 |some k=>
  cases d with
  |tup ds=>
   have b:(if ds.length=k then some ds else none)=some c:=b;by_cases hl:ds.length=k
   .rw[aA hl] at b
    cases b;obtain⟨a,xs,rfl,h1,h2⟩:=r;have f:=aj.length h2;refine⟨xs,h2,hl,λfs Q q=>⟨a,xs,rfl,bu.of h1,by rw[<-f];exact hl,?_⟩⟩;have:=BY (Q:=Q) (H:=H) (fs:=fs) xs [] q;show o7 0 k xs (replicate k none++fs) H Q;have e:k=xs.length:=by rw[<-f,hl]
    rw[e];exact this
   .rw[ay hl] at b
    cases b
  |_=>cases b
theorem RA.off(R:RA mg ι H A){p:Addr}{o u:HO}(a:∀r,r<A.length->ι r≠p)(d:H p=some u)(e:ia u=true):RA mg ι (upd H p o) A:=
 ⟨λr c h=>CO.ag (aI _) (λ_ _=>rfl) (λb q m z=>by
  rw[aV]
  .exact z
  .rintro rfl
   rw[d] at z;cases z;rw[e] at m;cases m) (λq z=>by rw[aV (a r (bR.mp h).1)];exact z) c (R.gj r c h),R.inj⟩
end
theorem PV{own:List Str}{ix:List Nat}{σ:L2.St}:L2.stC own ix σ=replicate own.length none++ix.map λi=>(σ[i]?).join:=by
 unfold L2.stC;rw[List.map_const']
theorem CG:∀(ds:List D) (fr:bq) (i:Nat) (d:D),lk (ds.map some++fr) i=some d->(ds[i]?=some d)\/(ds.length<=i/\lk fr (i - ds.length)=some d)
 |[],fr,i,d,h=>.inr ⟨cV _,by simpa using h⟩
 |x::r,fr,0,d,h=>.inl (by simpa[lk] using h)
 |x::r,fr,i+1,d,h=>by
  rcases CG r fr i d (by simpa[lk] using h) with q|⟨a,b⟩
  .exact .inl (by simpa using q)
  .exact .inr ⟨by simpa using a,by simpa using b⟩
theorem RS.block{mg:aq}{ι:Io}{n:Nat}{H:Hp}{τ:bq}{σ:L2.St}{ix:List Nat}{b:List D}{xs:List V}(r:RS mg ι n H τ σ)(h:aj mg ι n H b xs):RS mg ι n H (b.map some++ix.map (lk τ)) (xs.map some++ix.map λi=>(σ[i]?).join):=⟨by simp[aj.length h],λi d q=>by
 have hl:=aj.length h;rcases CG b _ i d q with q|⟨c,a⟩
 .obtain⟨v,h1,h2⟩:=aj.get h q
  have hi:=(bR.mp h1).1;exact⟨v,by rw[gz (by simpa using hi),bH,h1];rfl,h2⟩
 .rw[sd,bH] at a
  cases e:ix[i - b.length]? with
  |none=>rw[e] at a;simp at a
  |some j=>
   rw[e] at a;have a:lk τ j=some d:=by simpa using a
   obtain⟨v,h1,h2⟩:=r.at' j d a;refine⟨v,?_,h2⟩;rw[mh (by simpa[<-hl] using c),bH,aR,<-hl,e];simp[h1]⟩
section
variable{X:Cx}{N:En}{own frees:List Str}{ix:List Nat}{it:gR}{tt:ef}{te:aM}{k:Option Nat}
theorem ux(hk:own.length=k.getD 1){tT:CP->TT}(hT:∀c σ H Q,cH X.mg N tt σ H Q->tT c σ H Q){σ:L2.St}{H:Hp}{Q:VK}(q:up X.mg N (jT k ix it tt te) σ H Q):yI own ix (iy X.mg N it) (λ_=>nH X.K k) tT (λ_=>up X.mg N te) σ H Q:=by
 obtain⟨A,ι,τ,R,S,q,kq⟩:=q;refine⟨A,ι,τ,_,S,q,λitems V A1 F H1 J q1 e1 r1 j1 c acc f=>?_⟩;have S1:=S.next e1 r1;rw[PV,hk];have W:∀r,r<A1.length->F r≠acc:=λr n z=>by
  obtain⟨o,h1,_⟩:=r1.im r n;rw[z,f] at h1;cases h1
 have rn:=r1.rE (o:=.lst []) f;refine⟨λi m ys H'=>m=items.length - i/\i<=items.length/\∃A' ι' d,RA X.mg ι' H' A'/\Ext A1 F H1 A' ι' H'/\(∀r,r<A'.length->ι' r≠acc)/\H' acc=some (.lst ys)/\aj X.mg ι' A'.length H' d ys/\iX V k (ix.map (lk τ)) tt te (λys a=>R (.ref a.length) (a++[.lst ys])) (items.drop i) d A',
  ⟨_,rfl,cV _,A1,F,[],r1.fix rn (λb o z=>by rw[aV (dN z f)];exact z),rn,W,ee,rfl,by simpa using q1⟩,?_⟩
 rintro i m ys H2 ⟨rfl,hi,a,g,d,r2,D,l,hy,ry,E⟩;refine⟨hy,?_⟩;by_cases hl:i<items.length
 .right
  have hd:items.drop i=items[i]::items.drop (i+1):=by rw[kB hl]
  rw[hd] at E;obtain⟨t,E⟩:=E;obtain⟨g1,g2⟩:=j1.go i items[i] a g H2 (by rw[bO hl]) D r2 t;refine⟨g1,λM H'=>∃A' ι' I,RA X.mg ι' H' A'/\Ext A1 F H1 A' ι' H'/\(∀r,r<A'.length->ι' r≠acc)/\H' acc=some (.lst M)/\aj X.mg ι' A'.length H' I M/\iX V k (ix.map (lk τ)) tt te (λys a=>R (.ref a.length) (a++[.lst ys])) (items.drop (i+1)) I A',λM H' z=>⟨_,by omega,rfl,hl,z⟩,λx H3 y=>?_⟩;obtain⟨e3,r3,v3⟩:=g2 x H3 y;split at E
  .rename_i vs hu
   obtain⟨xs,h1,h2,h3⟩:=QE (K:=X.K) hu v3;refine h3 _ _ ⟨by have:=Cw (fs:=ix.map λi=>(σ[i]?).join) (xs.map some);rw[aR,<-aj.length h1,h2] at this;exact this,?_⟩;have G:=D.trans e3;have S3:dj X.mg N a g (vs.map some++ix.map (lk τ)) (xs.map some++ix.map λi=>(σ[i]?).join) H3:=⟨r3,RS.block (S1.rs.ext G) h1,S1.ex.trans G⟩;have Y:H3 acc=some (.lst ys):=e3.mo acc _ hy l;refine hT _ _ _ _ ⟨a,g,_,_,S3,E,λb A4 O H4 q4 P r4=>?_⟩;have w:∀r,r<A4.length->O r≠acc:=λr n z=>by
    by_cases hl:r<a.length
    .rw[P.ag r hl] at z;exact l r hl z
    .have:=P.nw r (by omega) n
     rw[z,Y] at this;cases this
   have T:H4 acc=some (.lst ys):=P.mo acc _ Y l;have Z:=aj.ext (e3.trans P) d ys ry;cases b with
   |true=>
    refine K5 ?_;refine⟨A4,O,_,_,S3.next P r4,q4,λv A5 FP H5 u q5 e5 r5 v5=>?_⟩;have U:H5 acc=some (.lst ys):=e5.mo acc _ T w;have L:∀r,r<A5.length->FP r≠acc:=λr n z=>by
     by_cases hl:r<A4.length
     .rw[e5.ag r hl] at z;exact w r hl z
     .have:=e5.nw r (by omega) n
      rw[z,T] at this;cases this
    have D7:=aj.ext e5 d ys Z;have p:=(G.trans P).trans e5;have fx:∀b o,ia o=false->H5 b=some o->upd H5 acc (.lst (ys++[u])) b=some o:=λb o m z=>by
     rw[aV]
     .exact z
     .rintro rfl
      rw[U] at z;cases z;cases m
    refine⟨U,by rw[<-aj.length D7];exact q5.1,A5,FP,d++[v],r5.off L U rfl,⟨p.len,p.ag,p.im,λb o z hn=>?_,p.nw,λb o z=>?_⟩,L,ee,?_,q5.2⟩
    .rw[aV (dN z f)];exact p.mo b o z hn
    .obtain⟨o',h'⟩:=p.al b o z
     exact⟨o',by rw[aV (dN z f)];exact h'⟩
    .exact aj.ag (aI _) (λ_ _=>rfl) fx _ _ (D7.app (es:=[v]) (ws:=[u]) ⟨u,[],rfl,v5,rfl⟩)
   |false=>
    refine K4 ?_;exact⟨A4,O,d,r4,G.trans P,w,T,Z,q4⟩
  .exact E.elim
 .left
  have e:i=items.length:=by omega
  subst e;rw[List.drop_length] at E;obtain⟨t,E⟩:=E;refine⟨j1.stop a g H2 D r2 t,?_⟩;obtain⟨B,j,at2⟩:∃B:Io,(∀r,r<a.length->B r=g r)/\B a.length=acc:=⟨λr=>if r=a.length then acc else g r,λr h=>by
   show(if r=a.length then acc else g r)=g r;rw[ay (by omega)],by
   show(if a.length=a.length then acc else g a.length)=acc;rw[aA rfl]⟩
  refine kq (.ref a.length) (a++[.lst d]) B H2 _ E (e1.trans ⟨by have:=D.len;simp;omega,λr h=>by rw[j r (dz h D.len)];exact D.ag r h,D.im,D.mo,λr h1 h2=>?_,D.al⟩) ⟨λr c h=>?_,λr s n hs h=>?_⟩ ⟨by simp,by rw[at2]⟩
  .by_cases n:r<a.length
   .rw[j r n];exact D.nw r h1 n
   .have:r=a.length:=by simp at h2;omega
    subst this;rw[at2];exact f
  .by_cases n:r<a.length
   .rw[gz n] at h
    have:=CO.ag (n':=(a++[C.lst d]).length) (ι':=B) (H':=H2) (by simp) j (λ_ _ _ z=>z) (λ_ z=>z) c (r2.gj r c h);rw[j r n];exact this
   .have hr':r=a.length:=by
     have:=(bR.mp h).1;simp at this;omega
    subst hr';simp at h;subst h;rw[at2];exact⟨ys,hy,aj.ag (by simp) j (λ_ _ _ z=>z) d ys ry⟩
  .simp at n hs
   by_cases h1:r=a.length
   .by_cases h2:s=a.length
    .rw[h1,h2]
    .subst h1
     rw[at2,j s (by omega)] at h;exact absurd h.symm (l s (by omega))
   .by_cases h2:s=a.length
    .subst h2
     rw[at2,j r (by omega)] at h;exact absurd h (l r (by omega))
    .rw[j r (by omega),j s (by omega)] at h
     exact r2.inj r s (by omega) (by omega) h
end
def lK:ef:=λ_ A R=>R true A
section
variable{X:Cx}{N:En}{own frees:List Str}{ix:List Nat}{it:gR}{tt:ef}{te:aM}(k:Option Nat){tg iter elt oO:Expr}{scope:Scope}{pos:Pos}
theorem i8(a:own.length=k.getD 1)(hi:PI X tg iter (iy X.mg N it))(b:∀c,PG (bJ X (own++frees) scope c) tg (nH X.K k))(d:∀c,PE (bJ X (own++frees) scope c) elt (up X.mg N te))(S:fK X scope frees:=by exact⟨rfl,by decide+kernel,by decide+kernel,by decide+kernel,by decide+kernel,rfl⟩)(hc:X.calm=true:=by rfl)(e:ix.map (λi=>X.N[i]?)=frees.map some:=by rfl)(f:∀x,foldedSetIterable iter X.env x=pure x:=by intro _;rfl):
  PE X (.ListComp elt [⟨tg,iter,[],0⟩] scope pos) (up X.mg N (jT k ix it lK te)):=
 dZ (Dl hi b (λc=>gU.nil) d S hc e f) λσ H Q q=>ux (own:=own) a (λ_ σ H Q h=>by
  obtain⟨A,ι,τ,R,S,h,k⟩:=h;exact k.here S.ra h) q
theorem H_(a:own.length=k.getD 1)(hi:PI X tg iter (iy X.mg N it))(b:∀c,PG (bJ X (own++frees) scope c) tg (nH X.K k))(d:∀c,PT (bJ X (own++frees) scope c) oO (cH X.mg N tt))(e:∀c,PE (bJ X (own++frees) scope c) elt (up X.mg N te))(S:fK X scope frees:=by exact⟨rfl,by decide+kernel,by decide+kernel,by decide+kernel,by decide+kernel,rfl⟩)(hc:X.calm=true:=by rfl)(f:ix.map (λi=>X.N[i]?)=frees.map some:=by rfl)(g:∀x,foldedSetIterable iter X.env x=pure x:=by intro _;rfl):
  PE X (.ListComp elt [⟨tg,iter,[oO],0⟩] scope pos) (up X.mg N (jT k ix it tt te)):=
 dZ (Dl hi b (λc=>gU.one (d c)) e S hc f g) λσ H Q q=>ux (own:=own) a (λ_ σ H Q h=>h) q
variable{i:Nat}{x:Str}{pos' spos:Pos}
theorem v8(a:X.N.Nodup)(b:X.N[i]?=some x)(f:Loc X.env.scope x)(g:own.length=k.getD 1)(hi:PI X tg iter (iy X.mg N it))(j:∀c,PG (bJ X (own++frees) scope c) tg (nH X.K k))(l:∀c,PE (bJ X (own++frees) scope c) elt (up X.mg N te))(S:fK X scope frees:=by exact⟨rfl,by decide+kernel,by decide+kernel,by decide+kernel,by decide+kernel,rfl⟩)(hc:X.calm=true:=by rfl)(m:ix.map (λi=>X.N[i]?)=frees.map some:=by rfl)(n:∀x,foldedSetIterable iter X.env x=pure x:=by intro _;rfl)
  (d:swapsWith (.ListComp elt [⟨tg,iter,[],0⟩] scope pos) (some (.Name x pos')) spos.line X.env=pure true:=by rfl)(o:X.fn x=true\/X.env.scope.names.lookup x=some .local:=by first|exact .inl rfl|exact .inr rfl|assumption):
  PS X (.Assign [.Name x pos'] (.ListComp elt [⟨tg,iter,[],0⟩] scope pos) spos) (bB X.mg N (lI i (jT k ix it lK te))):=
 gG (DA a b f hi j (λc=>gU.nil) l S hc m n d o) λQ σ H q=>by
  obtain⟨A,ι,τ,R,Z,q,k⟩:=q;exact ux (own:=own) g (λ_ σ H Q h=>by
   obtain⟨A,ι,τ,R,S,h,k⟩:=h;exact k.here S.ra h) ⟨A,ι,τ,_,Z,q,λv w p H1 u r e s t=>(k.nx.from e).here ((Z.next e s).set t) r⟩
theorem Iz(a:X.N.Nodup)(b:X.N[i]?=some x)(f:Loc X.env.scope x)(g:own.length=k.getD 1)(hi:PI X tg iter (iy X.mg N it))(j:∀c,PG (bJ X (own++frees) scope c) tg (nH X.K k))(l:∀c,PT (bJ X (own++frees) scope c) oO (cH X.mg N tt))(m:∀c,PE (bJ X (own++frees) scope c) elt (up X.mg N te))(S:fK X scope frees:=by exact⟨rfl,by decide+kernel,by decide+kernel,by decide+kernel,by decide+kernel,rfl⟩)(hc:X.calm=true:=by rfl)(n:ix.map (λi=>X.N[i]?)=frees.map some:=by rfl)(o:∀x,foldedSetIterable iter X.env x=pure x:=by intro _;rfl)
  (d:swapsWith (.ListComp elt [⟨tg,iter,[oO],0⟩] scope pos) (some (.Name x pos')) spos.line X.env=pure true:=by rfl)(p:X.fn x=true\/X.env.scope.names.lookup x=some .local:=by first|exact .inl rfl|exact .inr rfl|assumption):
  PS X (.Assign [.Name x pos'] (.ListComp elt [⟨tg,iter,[oO],0⟩] scope pos) spos) (bB X.mg N (lI i (jT k ix it tt te))):=
 gG (DA a b f hi j (λc=>gU.one (l c)) m S hc n o d p) λQ σ H q=>by
  obtain⟨A,ι,τ,R,Z,q,k⟩:=q;exact ux (own:=own) g (λ_ σ H Q h=>h) ⟨A,ι,τ,_,Z,q,λv y r H1 u s e t w=>(k.nx.from e).here ((Z.next e t).set w) s⟩
end
abbrev n9:=bq->Ar->(Option Int->Ar->Prop)->Prop
def uw(mg:aq)(N:En)(m:n9):TO:=λσ H Q=>∃A ι τ R,dj mg N A ι τ σ H/\m τ A R/\∀o A' ι' H',R o A'->Ext A ι H A' ι' H'->RA mg ι' H' A'->Q o H'
def oN:n9:=λ_ A R=>R none A
def oS(m:aM):n9:=λτ A R=>m τ A λx A1=>match x with
 |.int i=>R (some i) A1
 |_=>False
def cutD(xs:List D)(lo hi:Option Int):List D:=(xs.drop (HT.aP xs.length 0 lo)).take (HT.aP xs.length xs.length hi - HT.aP xs.length 0 lo)
theorem aj.cut{mg:aq}{ι:Io}{H:Hp}{n:Nat}{ds:List D}{a:List V}(r:aj mg ι n H ds a)(lo hi:Option Int):aj mg ι n H (cutD ds lo hi) (jS a lo hi):=by
 unfold cutD jS;rw[<-aj.length r];exact(r.drop _).take _
@[irreducible] def p8(r:Nat)(lo hi:Option Int)(A:Ar)(R:DK):Prop:=match A[r]? with
 |some (.lst xs)=>R (.ref A.length) (A++[.lst (cutD xs lo hi)])
 |_=>False
def Pu(x:D)(lo hi:Option Int)(A:Ar)(R:DK):Prop:=match x with
 |.tup xs=>¬(HT.aP xs.length 0 lo=0/\HT.aP xs.length xs.length hi=xs.length)/\R (.tup (cutD xs lo hi)) A
 |.ref r=>p8 r lo hi A R
 |_=>False
def HH(m:aM)(l u:n9):aM:=λτ A R=>m τ A λx A1=>l τ A1 λlo A2=>u τ A2 λhi A3=>Pu x lo hi A3 R
section
variable{X:Cx}{N:En}{pos p2:Pos}{e:Expr}{lo hi:Option Expr}{m:aM}{l u:n9}
theorem Bk{t t':TO}(h:PO X lo t)(w:∀σ H Q,t' σ H Q->t σ H Q):PO X lo t':=λpins s σ H Q I q=>h pins s σ H Q I (w σ H Q q)
theorem mV:PO X none (uw X.mg N oN):=Bk NH λσ H Q q=>by
 obtain⟨A,ι,τ,R,S,q,k⟩:=q;exact k none A ι H q S.ra.refl S.ra
theorem i9(h:PE X e (up X.mg N m)):PO X (some e) (uw X.mg N (oS m)):=Bk (Du h) λσ H Q q=>by
 obtain⟨A,ι,τ,R,S,q,k⟩:=q;refine⟨A,ι,τ,_,S,q,λx c a H1 u b d f g=>?_⟩;cases x with
 |int i=>exact⟨i,g,k (some i) c a H1 b d f⟩
 |_=>exact b.elim
theorem jV(t:PE X e (up X.mg N m))(hl:PO X lo (uw X.mg N l))(w:PO X hi (uw X.mg N u)):PE X (.Subscript e (.Slice lo hi none p2) pos) (up X.mg N (HH m l u)):=
 dZ (Nk (Px.or Pw) t hl w) λσ H Q q=>by
  obtain⟨A,ι,τ,R,S,q,k⟩:=q;refine⟨A,ι,τ,_,S,q,λx y d H1 v z f n B=>?_⟩;refine⟨y,d,τ,_,S.next f n,z,λC D g H2 E h F=>?_⟩;refine⟨D,g,τ,_,(S.next f n).next h F,E,λG I J L b o i=>?_⟩;have c:=(f.trans h).trans o;have s:=RV.ext (h.trans o) x v B;cases x with
  |tup ds=>
   obtain⟨a,xs,rfl,h1,h2⟩:=s;refine .inl ⟨a,xs,rfl,bu.of h1,by rw[<-aj.length h2];exact b.1,λp j=>sE (k.from c) i (h2.cut _ _) b.2 j⟩
  |ref r=>
   obtain⟨_,rfl⟩:=s;have b:p8 r C G I R:=b;unfold p8 at b;split at b
   .rename_i xs e
    obtain⟨K,h1,h2⟩:=i.lst e;exact .inr ⟨_,K,rfl,aS.of h1,λp j=>jf (k.from c) i (h2.cut _ _) b j⟩
   .exact b.elim
  |_=>exact b.elim
end
def Fc:List D->Option (List Str)
 |[]=>some []
 |.str b::r=>(Fc r).map (b::·)
 |_::_=>none
@[irreducible] def PM(r:Nat)(A:Ar)(R:DK):Prop:=match A[r]? with
 |some (.lst xs)=>(match Fc xs with
  |some ss=>ss.length<64/\∀ys:List Str,ys.Pairwise strLt->(∀x,x∈ys↔x∈ss)->R (.ref A.length) (A++[.lst (ys.map D.str)])
  |none=>False)
 |_=>False
def RP:iD:=λvs A R=>match vs with
 |[.ref r]=>PM r A R
 |_=>False
def cG{β:Type}(kvs:List (Key×β))(k:Key)(v:β):List (Key×β):=
 if (kvs.any λkv=>decide (kv.1=k))=true then kvs.map (λkv=>if kv.1=k then (kv.1,v) else kv) else kvs++[(k,v)]
section
variable{mg:aq}{ι:Io}{H:Hp}{n:Nat}
theorem RK.any{k:Key}:∀{kvs:List (Key×D)} {xs:List (Key×V)},RK mg ι n H kvs xs->(kvs.any λa=>decide (a.1=k))=(xs.any λa=>decide (a.1=k))
 |[],xs,h=>by cases (show xs=[] from h);rfl
 |p::r,xs,h=>by
  obtain⟨x,r',rfl,h1,h2⟩:=h;rw[l7,l7,RK.any h2]
theorem RK.xR{k:Key}{d:D}{v:V}(c:RV mg ι n H d v):∀{kvs:List (Key×D)} {xs:List (Key×V)},RK mg ι n H kvs xs->RK mg ι n H (kvs.map λa=>if a.1=k then (a.1,d) else a) (xs.map λa=>if a.1=k then (a.1,v) else a)
 |[],xs,h=>by cases (show xs=[] from h);rfl
 |p::r,xs,h=>by
  obtain⟨x,r',rfl,h1,h2⟩:=h;rw[cB,cB];by_cases b:p.1=k
  .rw[aA b,aA b];exact⟨v,_,rfl,c,RK.xR c h2⟩
  .rw[ay b,ay b];exact⟨x,_,rfl,h1,RK.xR c h2⟩
theorem RK.app:∀{ds es:List (Key×D)} {a ws:List (Key×V)},RK mg ι n H ds a->RK mg ι n H es ws->RK mg ι n H (ds++es) (a++ws)
 |[],_,a,_,h,q=>by have h':a=[]:=h;rw[h'];exact q
 |d::ds,es,a,ws,h,q=>by
  obtain⟨x,r,rfl,b,c⟩:=h;exact⟨x,r++ws,rfl,b,RK.app c q⟩
theorem RK.put{k:Key}{d:D}{v:V}(a:RV mg ι n H d v){kvs:List (Key×D)}{xs:List (Key×V)}(h:RK mg ι n H kvs xs):RK mg ι n H (cG kvs k d) (putK xs k v):=by
 unfold cG putK;rw[RK.any h];split
 .exact RK.xR a h
 .exact h.app (es:=[(k,d)]) (ws:=[(k,v)]) ⟨v,[],rfl,a,rfl⟩
end
def fJ:List D->Option (List (Key×D))
 |[]=>some []
 |.tup [a,b]::r=>(match fR a,fJ r with
  |some k,some l=>some ((k,b)::l)
  |_,_=>none)
 |_::_=>none
def tV(ps:List (Key×D)):List (Key×D):=ps.foldl (λacc p=>cG acc p.1 p.2) []
section
variable{mg:aq}{K:Frag}{ι:Io}{H:Hp}{n:Nat}
theorem Dg:∀{ds:List D} {c:List V} {ps:List (Key×D)},fJ ds=some ps->aj mg ι n H ds c->∃d,RK mg ι n H ps d/\c.length=d.length/\∀(i:Nat) (x:V) (p:Key×V),c[i]?=some x->d[i]?=some p->∃t,x=.ref t/\bu K H t [kV p.1,p.2]
 |[],c,ps,h,r=>by
  cases h;cases (show c=[] from r);exact⟨[],rfl,rfl,λi x p e=>by simp at e⟩
 |.tup [a,b]::ds,c,ps,h,r=>by
  obtain⟨x,r',rfl,h1,h2⟩:=r;unfold fJ at h;split at h
  .rename_i k l o q
   cases h;obtain⟨d,s,u,v⟩:=Dg q h2;obtain⟨t,xs,rfl,w,C,_,rfl,y,f,_,rfl,A,B⟩:=h1;obtain rfl:=B;cases kZ o y;refine⟨(k,f)::d,⟨f,d,rfl,A,s⟩,by simp[u],λi z p hz m=>?_⟩;cases i with
   |zero=>
    have g:V.ref t=z:=by simpa using hz
    have j:(k,f)=p:=by simpa using m
    subst g j;exact⟨t,rfl,bu.of w⟩
   |succ i=>exact v i z p (by simpa using hz) (by simpa using m)
  .cases h
 |.ai::_,_,_,h,_=>by simp[fJ] at h
 |.bl _::_,_,_,h,_=>by simp[fJ] at h
 |.int _::_,_,_,h,_=>by simp[fJ] at h
 |.str _::_,_,_,h,_=>by simp[fJ] at h
 |.ref _::_,_,_,h,_=>by simp[fJ] at h
 |.fl _::_,_,_,h,_=>by simp[fJ] at h
 |.exc _::_,_,_,h,_=>by simp[fJ] at h
 |.tup []::_,_,_,h,_=>by simp[fJ] at h
 |.tup [_]::_,_,_,h,_=>by simp[fJ] at h
 |.tup (_::_::_::_)::_,_,_,h,_=>by simp[fJ] at h
theorem RK.fold{ps:List (Key×D)}{a:List (Key×V)}(h:RK mg ι n H ps a):∀{acc:List (Key×D)} {oG:List (Key×V)},RK mg ι n H acc oG->RK mg ι n H (ps.foldl (λacc p=>cG acc p.1 p.2) acc) (a.foldl (λacc p=>putK acc p.1 p.2) oG):=by
 induction ps generalizing a with
 |nil=>intro acc oG b;cases (show a=[] from h);exact b
 |cons p r c=>
  intro acc oG b;obtain⟨x,r',rfl,h1,h2⟩:=h;exact c h2 (RK.put h1 b)
end
theorem C3{mg:aq}{A:Ar}{ι:Io}{H:Hp}{R:DK}{Q:VK}{ds:List (Key×D)}{xs:List (Key×V)}{p:Addr}(k:Kt mg A ι H R Q)(r:RA mg ι H A)(h:RK mg ι A.length H ds xs)(q:R (.ref A.length) (A++[.dct ds]))(a:H p=none):Q (.ref p) (upd H p (.dK xs)):=by
 have E:Ext A ι H (A++[.dct ds]) (λr=>if r=A.length then p else ι r) (upd H p (.dK xs)):=r.wD a;obtain⟨b,d⟩:=r.push (c:=.dct ds) (o:=.dK xs) a ⟨xs,ee,by simpa using RK.ext E ds xs h⟩;refine k _ _ _ _ _ q d b ⟨by simp,?_⟩;show V.ref p=V.ref (if A.length=A.length then p else ι A.length);rw[aA rfl]
@[irreducible] def dctP(xs:List D)(A:Ar)(R:DK):Prop:=match fJ xs with
 |some ps=>ps.length<=1000/\R (.ref A.length) (A++[.dct (tV ps)])
 |none=>False
@[irreducible] def q_(r:Nat)(A:Ar)(R:DK):Prop:=match A[r]? with
 |some (.lst xs)=>dctP xs A R
 |_=>False
def AU:iD:=λvs A R=>match vs with
 |[.tup xs]=>dctP xs A R
 |[.ref r]=>q_ r A R
 |_=>False
theorem RK.len'{mg:aq}{ι:Io}{H:Hp}{n:Nat}{ds:List (Key×D)}{a:List (Key×V)}(h:RK mg ι n H ds a):a.length=ds.length:=(RK.length h).symm
theorem AJ{mg:aq}{K:Frag}:iQ mg (λxs H Q=>∃(p:Addr) (ts:List V) (ps:List (Key×V)),xs=[.ref p]/\(H p=some (.lst ts)\/H p=some (.tup ts))/\Pairs K H ts ps/\ps.length<=1000/\∀d,H d=none->Q (.ref d) (upd H d (.dK (putAll ps)))) AU:=by
 intro ds A ι H c R Q ra rs h k;have fin:∀(xs:List D) (ts:List V) (p:Addr),aj mg ι A.length H xs ts->(H p=some (.lst ts)\/H p=some (.tup ts))->dctP xs A R->∃(q:Addr) (ts:List V) (ps:List (Key×V)),[V.ref p]=[.ref q]/\(H q=some (.lst ts)\/H q=some (.tup ts))/\Pairs K H ts ps/\ps.length<=1000/\∀d,H d=none->Q (.ref d) (upd H d (.dK (putAll ps))):=λxs ts p r g h=>by
  unfold dctP at h;split at h
  .rename_i ps ep
   obtain⟨i,f,j,l⟩:=Dg (K:=K) ep r;exact⟨p,ts,i,rfl,g,⟨j,l⟩,by rw[RK.len' f];exact h.1,λd hd=>C3 k ra (RK.fold f (acc:=[]) (oG:=[]) rfl) h.2 hd⟩
  .exact h.elim
 unfold AU at h;split at h
 .obtain⟨_,_,rfl,⟨a,xs,rfl,m,b⟩,rfl⟩:=rs
  exact fin _ xs a b (.inr m) h
 .obtain⟨_,_,rfl,⟨_,rfl⟩,rfl⟩:=rs
  unfold q_ at h;split at h
  .rename_i xs e
   obtain⟨c,h1,b⟩:=ra.lst e;exact fin _ c _ b (.inl h1) h
  .exact h.elim
 .exact h.elim
def HD:aM:=λ_ A R=>R (.ref A.length) (A++[.dct []])
theorem vW{X:Cx}{N:En}{pos:Pos}:PE X (.Dict [] [] pos) (up X.mg N HD):=dZ M_ λσ H Q q=>by
 obtain⟨A,ι,τ,R,S,q,k⟩:=q;exact λp a=>C3 (ds:=[]) (xs:=[]) k S.ra rfl q a
@[irreducible] def pV(r:Nat)(y v:D)(A:Ar)(R:Ar->Prop):Prop:=match A[r]?,fR y with
 |some (.dct kvs),some k=>kvs.length<sizeLine/\R (A.set r (.dct (cG kvs k v)))
 |_,_=>False
def OH(mo mi mv:aM):cZ:=λR τ A=>mv τ A λv A1=>mo τ A1 λx A2=>mi τ A2 λy A3=>match x with
 |.ref r=>pV r y v A3 λA4=>R.nx τ A4
 |_=>False
theorem v9{X:Cx}{N:En}{pos pos':Pos}{o i value:Expr}{mo s t:aM}(Y:X.A.units+64<cLine)(D:PE X o (up X.mg N mo))(hi:PE X i (up X.mg N s))(F:PE X value (up X.mg N t))(G:swapsWith value (some (.Subscript o i pos')) pos.line X.env=pure false):
  PS X (.Assign [.Subscript o i pos'] value pos) (bB X.mg N (OH mo s t)):=gG (NR (by omega) D hi F G) λQ σ H q=>by
 obtain⟨A,ι,τ,R,S,q,k⟩:=q;refine⟨A,ι,τ,_,S,q,λv I j H1 w J b l K=>?_⟩;refine⟨I,j,τ,_,S.next b l,J,λx L m H2 u M d B v2=>?_⟩;refine⟨L,m,τ,_,(S.next b l).next d B,M,λy O P Z z a f g T=>?_⟩;have n:=RV.ext (d.trans f) v w K;have p:=RV.ext f x u v2;cases x with
 |ref r=>
  obtain⟨_,rfl⟩:=p;have a:pV r y v O (λU=>R.nx τ U):=a;unfold pV at a;split at a
  .rename_i kvs h e V
   obtain⟨xs,h1,h2⟩:=g.dct e;cases kZ V T;refine⟨_,_,rfl,nZ.k h1 (by rw[<-RK.length h2];exact a.1),?_⟩;have hl:=(bR.mp e).1;have E:=g.kR (o:=.dK (putK xs h w)) (c:=.dct (cG kvs h v)) hl;obtain⟨W,C⟩:=g.put (c':=.dct (cG kvs h v)) (o:=.dK (putK xs h w)) e h1 rfl ⟨_,ee,by simpa using RK.ext E _ _ (RK.put n h2)⟩;exact(k.nx.from (((b.trans d).trans f).trans C)).here ((((S.next b l).next d B).next f g).next C W) a.2
  .exact a.elim
 |_=>exact a.elim
def xW:DX:=λ_ _=>False
theorem pR{X:Cx}{N:En}{P:Program}{w:World}:Passes (aY P w) X (EL X.mg N xW):=λpins σ H s e s' I h=>by
 obtain⟨a,C,H',_,_,c,A',ι',_,_,_,z⟩:=h;exact z.elim
theorem xB{K:Frag}:∀t∈tys,kitOne K (.type t) (.type "bool")=some (jz t "bool"):=by
 intro t a;simp only[tys,cu,gK,gM] at a;rcases a with rfl|rfl|rfl|rfl|rfl|rfl|rfl<;>rfl
theorem Cv{K:Frag}:∀t∈tys,kitOne K (.type t) (.type "int")=some (jz t "int"):=by
 intro t a;simp only[tys,cu,gK,gM] at a;rcases a with rfl|rfl|rfl|rfl|rfl|rfl|rfl<;>rfl
theorem rX{K:Frag}:∀t∈tys,kitOne K (.type t) (.type "str")=some (jz t "str"):=by
 intro t a;simp only[tys,cu,gK,gM] at a;rcases a with rfl|rfl|rfl|rfl|rfl|rfl|rfl<;>rfl
theorem kit_tuple{K:Frag}:∀t∈tys,kitOne K (.type t) (.type "tuple")=some (jz t "tuple"):=by
 intro t a;simp only[tys,cu,gK,gM] at a;rcases a with rfl|rfl|rfl|rfl|rfl|rfl|rfl<;>rfl
theorem Ls{K:Frag}:∀t∈tys,kitOne K (.type t) (.type "list")=some (jz t "list"):=by
 intro t a;simp only[tys,cu,gK,gM] at a;rcases a with rfl|rfl|rfl|rfl|rfl|rfl|rfl<;>rfl
theorem cI{b:Bool}{X Y:Prop}(h1:b=true->X)(h2:b=false->Y):cond b X Y:=by
 cases b with
 |true=>exact h1 rfl
 |false=>exact h2 rfl
theorem cD{p:Prop}[Decidable p]{X Y:Prop}(h1:p->X)(h2:¬p->Y):cond (decide p) X Y:=cI (λe=>h1 (fE e)) λe=>h2 (of_decide_eq_false e)
theorem cN{p:Prop}[Decidable p]{X Y:Prop}(h1:¬p->X)(h2:p->Y):cond (!decide p) X Y:=cI (λe=>h1 (of_decide_eq_false (by simpa using e))) λe=>h2 (fE (by simpa using e))
def bS(t:Nat)(A A':Ar):Prop:=∀q c,q≠t->A[q]?=some c->A'[q]?=some c
theorem bS.refl{t:Nat}{A:Ar}:bS t A A:=λ_ _ _ h=>h
theorem bS.trans{t:Nat}{A B C:Ar}(a:bS t A B)(b:bS t B C):bS t A C:=λq c n h=>b q c n (a q c n h)
theorem bS.set{t:Nat}{A:Ar}{c:C}:bS t A (A.set t c):=λq d n h=>by rw[fm (Ne.symm n)];exact h
def Tw(t n:Nat)(A:Ar):Prop:=∃xs,A[t]?=some (.lst xs)/\xs.length<=n
theorem Tw.mono{t n m:Nat}{A:Ar}(h:Tw t n A)(l:n<=m):Tw t m A:=let ⟨xs,a,b⟩:=h;⟨xs,a,dU b l⟩
theorem getElem?_push{A T:Ar}{q:Nat}{c:C}(h:A[q]?=some c):(A++T)[q]?=some c:=by
 have:=(bR.mp h).1;rw[gz this];exact h
def Gr(A A':Ar):Prop:=∃T,A'=A++T
theorem Gr.refl{A:Ar}:Gr A A:=⟨[],by simp⟩
theorem Gr.push{A T:Ar}:Gr A (A++T):=⟨T,rfl⟩
theorem Gr.trans{A B C:Ar}(a:Gr A B)(b:Gr B C):Gr A C:=by
 obtain⟨T,rfl⟩:=a;obtain⟨c,rfl⟩:=b;exact⟨T++c,by simp⟩
theorem Gr.get{A B:Ar}(a:Gr A B){q:Nat}{c:C}(h:A[q]?=some c):B[q]?=some c:=by
 obtain⟨T,rfl⟩:=a;exact getElem?_push h
theorem Gr.but{A B:Ar}{t:Nat}(a:Gr A B):bS t A B:=λ_ _ _ h=>a.get h
theorem Tw.gr{A B:Ar}{t n:Nat}(h:Tw t n A)(a:Gr A B):Tw t n B:=let ⟨xs,x,y⟩:=h;⟨xs,a.get x,y⟩
def zB:Ct:=λds A R _=>∃ns k,ds=[.fl ns,.int k]/\0<=k/\∀i A',Gr A A'->R (.int i) A'
def zQ:Ct:=λds A R _=>∃ns k m,ds=[.fl ns,.int k,.int m]/\0<=k/\0<m/\∀i A',0<=i->i<m->Gr A A'->R (.int i) A'
def mG:Ct:=λds A R _=>∃ns t m n,ds=[.fl ns,.ref t,.int m]/\Tw t n A/\n<1000000/\0<m/\∀i A',0<=i->i<m->bS t A A'->Tw t (n+1) A'->R (.int i) A'
def oA:Ct:=λds A R _=>∃ns t q xs n,ds=[.fl ns,.ref t,.ref q]/\q≠t/\A[q]?=some (.lst xs)/\xs≠[]/\Tw t n A/\n<1000000/\∀x A',x∈xs->bS t A A'->Tw t (n+1) A'->R x A'
theorem vD{α:Type}{xs:List α}{k:Int}(h0:0<=k)(h:k<(xs.length:Int)):∃v,cM xs k=some v/\v∈xs:=by
 have a:k.toNat<xs.length:=by omega
 refine⟨xs[k.toNat],?_,getElem_mem a⟩;unfold cM jc;rw[aA h0,aA h];simp[bO a]
theorem lay_ints:∀ns:List Int,canLayAll0 (ns.map PyData.int)=true
 |[]=>by simp[canLayAll0]
 |n::r=>by simp[canLayAll0,canLay0,lay_ints r]
theorem aG{A:Ar}{c:C}:(A++[c])[A.length]?=some c:=by simp
theorem IL{ns:List Int}{A:Ar}{R:DK}(h:R (.bl (decide (ns=[]))) (A++[.lst []])):gk false (.fl ns) (.ref A.length) (A++[.lst []]) R:=by
 unfold gk;have a:c_ (A++[.lst []]) (.ref A.length)=.list []:=by unfold c_;simp only[aG];rfl
 have b:c_ (A++[.lst []]) (.fl ns)=.list (ns.map PyData.int):=by unfold c_;rfl
 refine⟨rfl,?_,?_,?_,?_,?_⟩
 .unfold iM;simp only[aG];rfl
 .rw[b];simpa[canLay0] using lay_ints ns
 .rw[a];simp[canLay0,canLayAll0]
 .rw[a];simp[PyData.depth,depthAll];omega
 .rw[b,a]
  have e:PyData.eqv (.list (ns.map PyData.int)) (.list [])=decide (ns=[]):=by cases ns<;>simp[PyData.eqv,eqvAll]
  rw[ay b9,e];exact h
section
variable{A:Ar}{r q t:Nat}{xs ys:List D}{kvs:List (Key×D)}{R:DK}
theorem gZ(h:A[r]?=some (.lst xs)):kX A (.ref r)=true:=by unfold kX;simp only[h]
theorem kH{y:D}(h:A[r]?=some (.lst xs))(hz:xs.length<sizeLine)(k:R .ai (A.set r (.lst (xs++[y])))):qS r y A R:=by
 unfold qS;simp only[h];exact⟨hz,k⟩
theorem wB(h:A[r]?=some (.lst xs))(h2:A[q]?=some (.lst ys))(hz:xs.length+ys.length<=sizeLine)(k:R .ai (A.set r (.lst (xs++ys)))):rD r q A R:=by
 unfold rD;simp only[h,h2];exact⟨hz,k⟩
theorem iJ(h:A[r]?=some (.lst xs))(h2:A[q]?=some (.lst ys))(hz:xs.length+ys.length<=sizeLine)(k:R (.ref A.length) (A++[.lst (xs++ys)])):qV r q A R:=by
 unfold qV;simp only[h,h2];exact⟨hz,k⟩
theorem gI(h:A[r]?=some (.lst xs))(k:R (.int xs.length) A):r8 r A R:=by
 unfold r8;simp only[h];exact k
theorem fB{i:Int}{v:D}(h:A[r]?=some (.lst xs))(hi:cM xs i=some v)(k:R v A):jA r (.int i) A R:=by
 unfold jA;simp only[h,hi];exact k
theorem Fq(h:A[r]?=some (.lst xs))(k:R (.tup xs) A):uu r A R:=by
 unfold uu;simp only[h];exact k
theorem LN(h:A[r]?=some (.lst xs))(k:R (.ref A.length) (A++[.lst xs])):sj r A R:=by
 unfold sj;simp only[h];exact k
theorem get_set(h:A[t]?=some (.lst xs)):(A.set t (.lst ys))[t]?=some (.lst ys):=by
 rw[fu (bR.mp h).1]
theorem bU{c:C}(h:A[t]?=some c):t<A.length:=(bR.mp h).1
end
open MA
abbrev M:=bY Str
def enc:M->D
 |.wt n=>.tup [.str "weight",.str n]
 |.dF l r a b=>.tup [.str "rod",.int l,.int r,enc a,enc b]
theorem i7{k:Option Nat}{fr:bq}{te:aM}{a:Ar->Prop}{R:List D->Ar->Prop}{A:Ar}(hc:a A)(f:D->D):∀(items ys:List D),(∀x∈items,∃b,lM k x=some b/\∀Q:DK,Q (f x) A->te (b.map some++fr) A Q)->ys.length+items.length<=sizeLine->R (ys++items.map f) A->iX a k fr lK te R items ys A
 |[],ys,_,_,h=>⟨hc,by simpa using h⟩
 |x::xs,ys,c,hl,h=>by
  obtain⟨b,d,e⟩:=c x (cR ..);refine⟨hc,?_⟩;rw[d];refine e _ ⟨by simp at hl;omega,i7 hc f xs (ys++[f x]) (λy g=>c y (cj _ g)) (by simp at hl ⊢;omega) (by simpa using h)⟩
theorem qT{α:Type}(f:α->Bool):∀xs:List α,iH (xs.map λx=>D.bl (f x))=some (xs.map f)
 |[]=>rfl
 |x::r=>by simp[iH,qT f r]
theorem qP{A:Ar}{r:Nat}{xs:List D}{bs:List Bool}{R:DK}(h:A[r]?=some (.lst xs))(a:iH xs=some bs)(k:R (.bl (bs.all id)) A):allR r A R:=by
 unfold allR;simp only[h,a];exact k
theorem eO{A:Ar}{r:Nat}{xs:List D}{R:List D->(Ar->Prop)->Ar->Prop}(h:A[r]?=some (.lst xs))(k:R xs (λA'=>A'[r]?=some (.lst xs)) A):itR r A R:=by
 unfold itR;simp only[h];exact k
structure Nm(n:Str):Prop where
 lo:1<=n.length
 hi:n.length<=3
 az:∀c∈n.cps.toList,97<=c/\c<=122
structure Wf(m:M):Prop where
 arms:m.arms
 nm:∀n∈m.names,Nm n
def SV(dom:List D->D->Prop):Ct:=λds A R _=>∃v,dom ds v/\∀A',Gr A A'->R v A'
def SL(dom:List D->List D->Prop):Ct:=λds A R _=>∃v,dom ds v/\∀A' r,Gr A A'->A'[r]?=some (.lst v)->R (.ref r) A'
abbrev zU:Ct:=SV λds v=>∃i a b,ds=[.int i,.int a,.int b]/\v=.bl (decide (a<=i)&&decide (i<=b))
abbrev zR:Ct:=SV λds v=>∃n,ds=[.str n]/\Nm n/\v=.bl true
abbrev zL(d:Nat):Ct:=SV λds v=>∃m,ds=[enc m,.int ((d:Int) - 1)]/\Wf m/\m.deep<d/\v=.bl true
abbrev vp:Ct:=SV λds v=>∃m,ds=[enc m]/\Wf m/\m.deep<=5/\v=.bl true
abbrev zD:Ct:=SV λds v=>∃m,ds=[enc m]/\Wf m/\m.deep<=5/\v=.ai
theorem o4{P:Program}{w:World}{K:Frag}{mg:aq}{base:Heap}{x:Str}{st:Stmt}{ps:List Str}{k n:Nat}{S:Ct}(T:TopD K mg x st ps)(no:∀ds A R RE,¬S ds A R RE):aD P w K mg base k x ps (aB mg n S):=by
 obtain⟨f,fd,F,b,m⟩:=T;have c:∀a H Q E,¬aB mg n S a H Q E:=λa H Q E h=>by
  obtain⟨A,ι,ds,R,RE,_,_,_,z,_⟩:=h;exact no _ _ _ _ z
 exact⟨f,fd,⟨λa H Q E h=>absurd h (c a H Q E),λA outer s H args d a Q E _ _ _ _ h=>absurd h (c a H Q E)⟩,b,F.kp,m⟩
theorem Ob{kvs:List (Key×D)}{k:Key}{v:D}(h:∀p∈kvs,p.1≠k):cG kvs k v=kvs++[(k,v)]:=by
 unfold cG;rw[ay];intro z;obtain⟨p,a,e⟩:=nP.mp z;exact h p a (fE e)
def k_:M->Str->List (Str×Str)
 |.wt n,w=>[(w,n)]
 |.dF _ _ a b,w=>k_ a (w++"l")++k_ b (w++"r")
theorem sr:∀(m:M) (w:Str),(k_ m w).map (·.2)=m.names
 |.wt n,w=>rfl
 |.dF _ _ a b,w=>by
  show List.map _ (_++_)=a.names++b.names;rw[cX,sr a,sr b]
theorem xN(m:M)(w:Str):(k_ m w).length=m.names.length:=by rw[<-sr m w,aR]
def CN(p:Str×Str):D:=.tup [.str p.1,.str p.2]
abbrev zP(d:Nat):Ct:=SL λds v=>∃m w,ds=[enc m,.str w]/\m.deep<d/\w.length+d<=100/\d<=8/\v=(k_ m w).map CN
theorem vN{k:Option Nat}{fr:bq}{te:aM}{a:Ar->Prop}{R:List D->Ar->Prop}(f:D->D):∀(items ys:List D) (A:Ar),(∀A',Gr A A'->a A')->(∀x∈items,∀A',Gr A A'->∃c,lM k x=some c/\∀Q:DK,(∀b,Gr A' b->Q (f x) b)->te (c.map some++fr) A' Q)->ys.length+items.length<=sizeLine->(∀A',Gr A A'->R (ys++items.map f) A')->iX a k fr lK te R items ys A
 |[],ys,A,hc,_,_,h=>⟨hc A Gr.refl,by simpa using h A Gr.refl⟩
 |x::xs,ys,A,hc,e,hl,h=>by
  obtain⟨c,i,j⟩:=e x (cR ..) A Gr.refl;refine⟨hc A Gr.refl,?_⟩;rw[i];refine j _ λl d=>⟨by simp at hl;omega,vN f xs (ys++[f x]) l (λA' g=>hc A' (d.trans g)) (λy m A' g=>e y (cj _ m) A' (d.trans g)) (by simp at hl ⊢;omega) (λA' g=>by simpa using h A' (d.trans g))⟩
theorem Nm.ok{n:Str}(h:Nm n):canLay0 (.str n)=true:=by
 have e:n.cps.all (λc=>decide (c<0x110000))=true:=by
  rw[<-Array.all_toList,lZ];intro c hc;have:=h.az c hc;exact cW (by omega)
 simpa[canLay0,PyData.strOk] using e
theorem tU:∀ss:List Str,gu (ss.map D.str)=true
 |[]=>rfl
 |s::r=>by simp[gu,ie,tU r]
theorem tX:∀ss:List Str,bX (ss.map D.str)=ss.map PyData.str
 |[]=>rfl
 |s::r=>by simp[bX,toQ,tX r]
theorem rY:∀ss:List Str,(∀n∈ss,Nm n)->canLayAll0 (ss.map PyData.str)=true
 |[],_=>by simp[canLayAll0]
 |s::r,h=>by
  have h1:=(h s (cR ..)).ok;have h2:=rY r λn a=>h n (cj _ a);simp[canLayAll0,h1,h2]
theorem Bd:∀ss:List Str,depthAll (ss.map PyData.str)=0
 |[]=>by simp[depthAll]
 |s::r=>by simp[depthAll,PyData.depth,Bd r]
theorem Bu:∀ss ts:List Str,eqvAll (ss.map PyData.str) (ts.map PyData.str)=decide (ss=ts)
 |[],[]=>by simp[eqvAll]
 |[],_::_=>by simp[eqvAll]
 |_::_,[]=>by simp[eqvAll]
 |s::r,t::u=>by
  simp only[cB,eqvAll,PyData.eqv,Bu r u];by_cases h1:s=t
  .by_cases h2:r=u<;>simp[h1,h2]
  .simp[h1]
theorem IP{A:Ar}{r q:Nat}{ss ts:List Str}{R:DK}(h1:A[r]?=some (.lst (ss.map D.str)))(h2:A[q]?=some (.lst (ts.map D.str)))(n1:∀n∈ss,Nm n)(n2:∀n∈ts,Nm n)(k:R (.bl (decide (ss=ts))) A):gk false (.ref r) (.ref q) A R:=by
 have a:c_ A (.ref r)=.list (ss.map PyData.str):=by unfold c_;simp only[h1,tX]
 have b:c_ A (.ref q)=.list (ts.map PyData.str):=by unfold c_;simp only[h2,tX]
 unfold gk;rw[a,b];refine⟨by unfold iM;simp only[h1,tU],by unfold iM;simp only[h2,tU],by simpa[canLay0] using rY ss n1,by simpa[canLay0] using rY ts n2,by simp[PyData.depth,Bd],?_⟩;rw[ay b9];show R (.bl (PyData.eqv (.list _) (.list _))) A;rw[show PyData.eqv (.list (ss.map PyData.str)) (.list (ts.map PyData.str))=decide (ss=ts) by simp only[PyData.eqv,Bu]];exact k
theorem fH{A:Ar}{r:Nat}{kvs:List (Key×D)}{y v:D}{k:Key}{R:DK}(h:A[r]?=some (.dct kvs))(a:fR y=some k)(b:bf kvs k=some v)(q:R v A):jA r y A R:=by
 unfold jA;simp only[h,a,b];exact q
theorem jy{A:Ar}{r:Nat}{kvs:List (Key×D)}{y:D}{k:Key}{R:DK}{neg:Bool}(h:A[r]?=some (.dct kvs))(a:fR y=some k)(q:R (.bl (if neg then !(bf kvs k).isSome else (bf kvs k).isSome)) A):inR neg y r A R:=by
 unfold inR;simp only[h,a];exact q
def rd(a b:Int):Int×Int:=(a/(Int.gcd a b:Int),b/(Int.gcd a b:Int))
abbrev zG:Ct:=SV λds v=>∃a b:Int,ds=[.int a,.int b]/\0<=a/\0<=b/\v=.int (Int.gcd a b:Int)
abbrev qL:Ct:=SV λds v=>∃a b:Int,ds=[.int a,.int b]/\0<a/\0<b/\a<2 ^ 2000/\v=.tup [.int (rd a b).1,.int (rd a b).2]
theorem Gr.len{A B:Ar}(a:Gr A B):A.length<=B.length:=by
 obtain⟨T,rfl⟩:=a;simp
structure Dr(t:Nat)(A A':Ar)(n k:Nat):Prop where
 but:bS t A A'
 tw:Tw t (n+k) A'
end DP
namespace DP
open L2
theorem C1{A:Ar}{p:Nat}{xs:List D}{R:DK}(h:A[p]?=some (.lst xs))(c:gu xs=true)(hl:canLayAll0 (bX xs)=true)(k:R (.bl (!decide (xs=[]))) (A++[.lst []])):gk true (.ref p) (.ref A.length) (A++[.lst []]) R:=by
 unfold gk;have b:c_ (A++[.lst []]) (.ref p)=.list (bX xs):=by unfold c_;simp only[getElem?_push h]
 have a:c_ (A++[.lst []]) (.ref A.length)=.list []:=by unfold c_;simp only[aG];rfl
 refine⟨?_,?_,?_,?_,?_,?_⟩
 .unfold iM;simp only[getElem?_push h];exact c
 .unfold iM;simp only[aG];rfl
 .rw[b];simpa[canLay0] using hl
 .rw[a];simp[canLay0,canLayAll0]
 .rw[a];simp[PyData.depth,depthAll];omega
 .rw[b,a]
  have e:PyData.eqv (.list (bX xs)) (.list [])=decide (xs=[]):=by cases xs<;>simp[bX,PyData.eqv,eqvAll]
  rw[aA rfl,e];exact k
theorem Gr.set{A B:Ar}{r:Nat}{c:C}(g:Gr A B)(h:A.length<=r):Gr A (B.set r c):=by
 obtain⟨T,rfl⟩:=g;exact⟨T.set (r - A.length) c,by rw[List.set_append_right _ _ h]⟩
open MA
theorem aj.of_get{mg:aq}{ι:Io}{H:Hp}{n:Nat}:∀{ds:List D} {a:List V},ds.length=a.length->(∀(i:Nat) d v,ds[i]?=some d->a[i]?=some v->RV mg ι n H d v)->aj mg ι n H ds a
 |[],[],_,_=>rfl
 |[],_::_,h,_=>by cases h
 |_::_,[],h,_=>by cases h
 |d::ds,v::a,h,k=>⟨v,a,rfl,k 0 d v rfl rfl,aj.of_get (by simpa using h) λi d v h1 h2=>k (i+1) d v (by simpa using h1) (by simpa using h2)⟩
theorem RA.IU{mg:aq}{A:Ar}{ι:Io}{H H':Hp}(R:RA mg ι H A)(g:jq H H'):Ext A ι H A ι H':=⟨aI _,λ_ _=>rfl,R.im,λb u h _=>g b u h,λr h1 h2=>absurd h2 (by omega),λb u h=>⟨u,g b u h⟩⟩
open MA
def bM:M->Str->Rat->List (Str×Str×Rat)
 |.wt n,w,x=>[(w,n,x)]
 |.dF l r a b,w,x=>bM a (w++("l":Str)) (x*((r:Rat)/((l+r:Int):Rat)))++bM b (w++("r":Str)) (x*((l:Rat)/((l+r:Int):Rat)))
theorem lJ:∀(m:M) (w:Str) (x:Rat),(bM m w x).length=m.names.length
 |.wt _,_,_=>rfl
 |.dF _ _ a b,w,x=>by
  show List.length (_++_)=List.length (_++_);rw[dI,dI,lJ a,lJ b]
theorem nh{m:M}(h:m.deep<=5):m.names.length<=32:=
 dU (bY.ly m) (gy (by decide) h:2 ^ m.deep<=2 ^ 5)
theorem nA{j k:Nat}(h:j<=k):(18:Int) ^ j<=18 ^ k:=by
 have:(18:Nat) ^ j<=18 ^ k:=gy (by decide) h;exact_mod_cast this
theorem yf(k:Nat):(1:Int)<=18 ^ k:=by
 have:1<=(18:Nat) ^ k:=Nat.one_le_pow _ _ (by decide);exact_mod_cast this
theorem Bc{D a:Int}{j k:Nat}(h:D*18 ^ (max j k+1)<=1000000000)(hd:a<=D*18)(d:0<D):a*18 ^ j<=1000000000/\a*18 ^ k<=1000000000/\D<=1000000000:=by
 have e:D*18 ^ (max j k+1)=D*18*18 ^ max j k:=by rw[jI,mul_comm (18 ^ max j k) 18,<-mul_assoc]
 rw[e] at h;have b:=nA (qy j k);have p2:=nA (qz j k);have c:=yf (max j k);have f:=yf j;have g:=yf k;refine⟨fj (dc hd b (by omega) (by omega)) h,fj (dc hd p2 (by omega) (by omega)) h,?_⟩;have:D*1<=D*18*18 ^ max j k:=dc (by omega) c (by omega) (by omega);omega
structure u7(x:Rat):Prop where
 pos:0<x
 num:(rf x).1<=2000000
 den:(rf x).2<=2000000
theorem pU{c a b:Nat}(hc:0<c)(h:a<=b):(c:Int) ^ a<=(c:Int) ^ b:=by
 rw[<-natCast_pow,<-natCast_pow];exact Int.ofNat_le.mpr (gy hc h)
def Cons{W N S:Type}(l:List (W×N×S)):Prop:=∀a∈l,∀b∈l,a.2.1=b.2.1->a.2.2=b.2.2
theorem found{W N S:Type}[DecidableEq N]{l:List (W×N×S)}{n:N}{p:W×N×S}(h:l.find? (λp=>decide (p.2.1=n))=some p):p.2.1=n:=by
 have:=nR h;simpa using this
theorem vG{W N S:Type}[DecidableEq N][DecidableEq S]:∀(r pre:List (W×N×S)),eo pre r=none->Cons pre->Cons (pre++r)
 |[],pre,_,h=>by rw[kr];exact h
 |(g,n,s)::r,pre,l,h=>by
  have e:pre++(g,n,s)::r=(pre++[(g,n,s)])++r:=by simp
  rw[e];cases j:pre.find? (λp=>decide (p.2.1=n)) with
  |none=>
   have i:eo (pre++[(g,n,s)]) r=none:=by
    have:=l;unfold eo at this;rw[j] at this;exact this
   refine vG r _ i λa ha b hbm d=>?_;have no:∀c∈pre,c.2.1≠n:=λc hc z=>by
    have:=qv.mp j c hc;exact this (cW z)
   rcases ck.mp ha with ha|ha<;>rcases ck.mp hbm with hbm|hbm
   .exact h a ha b hbm d
   .rw[b_.mp hbm] at d
    exact absurd d (no a ha)
   .rw[b_.mp ha] at d
    exact absurd d.symm (no b hbm)
   .rw[b_.mp ha,b_.mp hbm]
  |some p=>
   have f:=l;unfold eo at f;rw[j] at f;by_cases es:p.2.2=s
   .have i:eo (pre++[(g,n,s)]) r=none:=by
     have:(if p.2.2=s then eo (pre++[(g,n,s)]) r else some (p.1,g))=none:=f;rwa [aA es] at this
    have m:=iO j;have k:p.2.1=n:=found j;refine vG r _ i λa ha b hbm d=>?_;have to:∀c∈pre,c.2.1=n->c.2.2=s:=λc hc z=>by rw[h c hc p m (by rw[z,k]),es]
    rcases ck.mp ha with ha|ha<;>rcases ck.mp hbm with hbm|hbm
    .exact h a ha b hbm d
    .rw[b_.mp hbm] at d ⊢
     exact to a ha d
    .rw[b_.mp ha] at d ⊢
     exact(to b hbm d.symm).symm
    .rw[b_.mp ha,b_.mp hbm]
   .have:(if p.2.2=s then eo (pre++[(g,n,s)]) r else some (p.1,g))=none:=f
    rw[ay es] at this;cases this
theorem AE{W N S:Type}[DecidableEq N][DecidableEq S]:∀(r pre:List (W×N×S)),Cons (pre++r)->eo pre r=none
 |[],pre,_=>by unfold eo;rfl
 |(a,n,s)::r,pre,h=>by
  have e:pre++(a,n,s)::r=(pre++[(a,n,s)])++r:=by simp
  have c:=AE r (pre++[(a,n,s)]) (by rw[<-e];exact h);unfold eo;cases d:pre.find? (λp=>decide (p.2.1=n)) with
  |none=>exact c
  |some p=>
   have f:=iO d;have b:p.2.1=n:=found d;have es:p.2.2=s:=h p (mC _ f) (a,n,s) (by simp) b;show(if p.2.2=s then _ else _)=none;rw[aA es];exact c
theorem nC:∀(m:M) (w:Str) (x:Rat),(bM m w x).map (·.2.1)=m.names
 |.wt _,_,_=>rfl
 |.dF _ _ a b,w,x=>by
  show((bM a _ _++bM b _ _).map (·.2.1))=a.names++b.names;rw[cX,nC a,nC b]
theorem p6:∀(m:M) (w:Str) (x:Rat),(bM m w x).map (·.2.2)=m.sh x
 |.wt _,_,_=>rfl
 |.dF _ _ a b,w,x=>by
  show((bM a _ _++bM b _ _).map (·.2.2))=a.sh _++b.sh _;rw[cX,p6 a,p6 b]
noncomputable def shr(m:M):Str->Rat:=λx=>match (bM m "" 1).find? (λp=>decide (p.2.1=x)) with|some p=>p.2.2|none=>0
theorem yC{m:M}(h:eo [] (bM m "" 1)=none):(∀a∈bM m "" 1,a.2.2=shr m a.2.1)/\m.names.map (shr m)=m.sh 1:=by
 have hc:=vG (bM m "" 1) [] h (by intro a b;simp at b);rw[gx] at hc;have key:∀a∈bM m "" 1,a.2.2=shr m a.2.1:=λa b=>by
  show _=(match (bM m "" 1).find? (λp=>decide (p.2.1=a.2.1)) with|some p=>p.2.2|none=>0);cases c:(bM m "" 1).find? (λp=>decide (p.2.1=a.2.1)) with
  |none=>exact absurd (cW rfl) (qv.mp c a b)
  |some p=>exact(hc p (iO c) a b (found c)).symm
 refine⟨key,?_⟩;rw[<-nC m "" 1,<-p6 m "" 1,cY];exact nW λa b=>(key a b).symm
theorem num_mul{t:Rat}{a b:Int}(c:0<b)(d:0<=(rf t).1*a):(rf (t*((a:Rat)/(b:Rat)))).1<=(rf t).1*a:=by
 rw[<-yr,<-t_ (cJ (cP t) c)];exact ediv_le_self _ d
theorem yy:∀(m:M) (x:Rat) (B:Int),m.arms->0<x->(rf x).1<=B->∀s∈m.sh x,(rf s).1<=B*18 ^ m.deep
 |.wt _,x,B,_,h1,h2,s,hs=>by
  have:s=x:=by simpa[bY.sh] using hs
  subst this;simpa[bY.deep] using h2
 |.dF l r a b,x,B,h,h1,h2,s,hs=>by
  obtain⟨c,p,d,q,e,f⟩:=h;have g:0<B:=nN (cT h1) h2;have np:=cT h1;have i:(rf (x*((r:Rat)/((l+r:Int):Rat)))).1<=B*18:=by
   refine fj (num_mul (by omega) (nL (by omega) (by omega))) ?_;exact dc h2 (by omega) (by omega) (by omega)
  have j:(rf (x*((l:Rat)/((l+r:Int):Rat)))).1<=B*18:=by
   refine fj (num_mul (by omega) (nL (by omega) (by omega))) ?_;exact dc h2 (by omega) (by omega) (by omega)
  have n:0<x*((r:Rat)/((l+r:Int):Rat)):=bY.step_pos c d h1;have p2:0<x*((l:Rat)/((l+r:Int):Rat)):=by
   have:=bY.step_pos (l:=r) (r:=l) d c h1;rwa [add_comm r l] at this
  have up:∀k:Nat,k<=max a.deep b.deep->B*18*18 ^ k<=B*18 ^ (max a.deep b.deep+1):=λk o=>by
   rw[jI,mul_assoc,mul_comm 18 (18 ^ k)];refine qp ?_ (eK g);exact yZ (nA o) (by decide)
  rcases ck.mp (show s∈a.sh _++b.sh _ from hs) with hs|hs
  .exact fj (yy a _ _ e n i s hs) (up _ (qy _ _))
  .exact fj (yy b _ _ f p2 j s hs) (up _ (qz _ _))
theorem Pq{m:M}(a:m.arms)(f:m.deep<=5):∀s∈m.sh 1,0<s/\(rf s).1<=1889568/\(rf s).2<=1889568:=λs b=>by
 obtain⟨g,c⟩:=bY.ue m 1 1 a (by decide) (by decide) s b;have d:=yy m 1 1 a (by decide) (by decide) s b;have p:=nA f;have e:(18:Int) ^ 5=1889568:=by decide
 rw[e] at p;rw[one_mul] at c d;exact⟨g,fj d p,fj c p⟩
theorem Pr{m:M}(a:m.arms)(b:m.deep<=5)(h:eo [] (bM m "" 1)=none){x:Str}(c:x∈m.names):u7 (shr m x):=by
 have:shr m x∈m.sh 1:=by
  rw[<-(yC h).2];exact br.mpr ⟨x,c,rfl⟩
 obtain⟨h1,h2,d⟩:=Pq a b _ this;exact⟨h1,by omega,by omega⟩
theorem d_{a:Ar->Prop}{g:iS}{b:cZ}{R:jN}(J:List D->bq->Ar->Prop)(hc:∀rest τ A,J rest τ A->a A)
  (e:∀x rest τ A,J (x::rest) τ A->∀c:bq->Ar->Prop,(∀bI A',J rest bI A'->c bI A')->g x τ A λd h=>b {R with nx:=c,ct:=c,bk:=R.nx} d h)(f:∀τ A,J [] τ A->R.nx τ A):∀(items:List D) (τ:bq) (A:Ar),J items τ A->mK a g b R items τ A
 |[],τ,A,j=>⟨hc _ _ _ j,f _ _ j⟩
 |x::rest,τ,A,j=>⟨hc _ _ _ j,e _ _ _ _ j _ λbI A' i=>d_ J hc e f rest bI A' i⟩
theorem Ax{k:Option Nat}{fr:bq}{te:aM}{a:Ar->Prop}{R:List D->Ar->Prop}(J:List D->List D->Ar->Prop)(hc:∀rest ys A,J rest ys A->a A)(hl:∀rest ys A,J rest ys A->ys.length<=sizeLine)
  (d:∀x rest ys A,J (x::rest) ys A->∃b,lM k x=some b/\∀Q:DK,(∀y c,J rest (ys++[y]) c->Q y c)->te (b.map some++fr) A Q)(e:∀ys A,J [] ys A->R ys A):∀items ys A,J items ys A->iX a k fr lK te R items ys A
 |[],ys,A,j=>⟨hc _ _ _ j,e _ _ j⟩
 |x::rest,ys,A,j=>by
  obtain⟨b,g,q⟩:=d _ _ _ _ j;refine⟨hc _ _ _ j,?_⟩;rw[g];refine q _ λy c f=>⟨?_,Ax J hc hl d e rest _ _ f⟩;have:=hl _ _ _ f;simp at this;omega
theorem vL{k:Option Nat}{fr:bq}{tt:ef}{te:aM}{a:Ar->Prop}{R:List D->Ar->Prop}{A:Ar}(hc:a A)(p:D->Bool)(f:D->D):∀(items ys:List D),(∀x∈items,∃b,lM k x=some b/\(∀Q:Bool->Ar->Prop,Q (p x) A->tt (b.map some++fr) A Q)/\∀Q:DK,Q (f x) A->te (b.map some++fr) A Q)->ys.length+items.length<=sizeLine->R (ys++(items.filter p).map f) A->iX a k fr tt te R items ys A
 |[],ys,_,_,h=>⟨hc,by simpa using h⟩
 |x::xs,ys,c,hl,h=>by
  obtain⟨b,g,i,j⟩:=c x (cR ..);refine⟨hc,?_⟩;rw[g];simp at hl;refine i _ ?_;cases e:p x with
  |true=>
   rw[List.filter_cons_of_pos e] at h;exact j _ ⟨by omega,vL hc p f xs (ys++[f x]) (λy d=>c y (cj _ d)) (by simp;omega) (by simpa using h)⟩
  |false=>
   rw[List.filter_cons_of_neg (by simp[e])] at h;exact vL hc p f xs ys (λy d=>c y (cj _ d)) (by omega) h
theorem Gr.Dc{A d A':Ar}{t:Nat}(g:Gr A d)(e:A.length<=t)(b:bS t d A'):Gr A A':=by
 have key:∀q c,A[q]?=some c->A'[q]?=some c:=λq c h=>b q c (by have:=bU h;omega) (g.get h);refine⟨A'.drop A.length,ext_getElem? λq=>?_⟩;by_cases a:q<A.length
 .rw[gz a,bO a]
  exact key q _ (bO a)
 .rw[mh (by omega),List.getElem?_drop]
  congr 1;omega
end DP
namespace L2
section
variable{X:Cx}{pins:aQ}{σ:St}{H:Hp}{s:Shared}{d:Addr}{kvs:List (Key×V)}
theorem Inv.swap{u g:HO}(I:Inv X pins σ H s)(hd:H d=some u)(j:∀xs,u≠ .tup xs)(k:∀ps,u≠ .iw ps)(l:∀a,u≠ .own a)(m:∀o v,X.H₀ d=some (.bz o v)->False)(q:bQ X.prog X.w H s.heap d g):Inv X pins σ (upd H d g) s:=by
 have nn:∀b,H b=none->upd H d g b=none:=λb h=>by
  rw[aV (λz=>by rw[z,hd] at h;cases h)];exact h
 have st:∀(a:Addr) (o:HO),bQ X.prog X.w H s.heap a o->bQ X.prog X.w (upd H d g) s.heap a o:=λa o x=>
  x.stay (λb v _ e=>e) (λb h=>by rw[aV (λz=>by rw[z,hd] at h;exact l a (Option.some.inj h))];exact h) λb xs h=>by rw[aV (λz=>by rw[z,hd] at h;exact j xs (Option.some.inj h))];exact h
 refine⟨I.ok,I.os,I.bare,⟨I.base.keep,I.base.slot,λb o e n r=>nn b (I.base.free b o e n r),I.base.there,λb xs h=>?_,λb o v h=>?_,λb ps h=>?_⟩,I.loc,I.cell,nn _ I.free,λx c e=>nn _ (I.ja x c e),λp i=>?_,λa o h=>?_,I.len⟩
 .have h':=I.base.tups b xs h
  rw[aV (λz=>by rw[z,hd] at h';exact j xs (Option.some.inj h'))];exact h'
 .have h':=I.base.fQ b o v h
  rw[aV (λz=>by rw[z] at h;exact m o v h)];exact h'
 .obtain⟨f,h'⟩:=I.base.gv b ps h
  exact⟨f,by rw[aV (λz=>by rw[z,hd] at h';exact k _ (Option.some.inj h'))];exact h'⟩
 .obtain⟨h1,h2,t⟩:=I.pin p i
  exact⟨h1,nn _ h2,t⟩
 .by_cases z:a=d
  .subst z
   rw[ee] at h;cases h;exact st _ _ q
  .rw[aV z] at h
   exact st _ _ (I.hok a o h)
theorem Inv.fz(I:Inv X pins σ H s)(hd:H d=some (.dK kvs)):(∀o v,X.H₀ d=some (.bz o v)->False)/\∃o,Inv X pins σ (upd H d (.bz o (.dK kvs))) s:=by
 have a:∀o v,X.H₀ d=some (.bz o v)->False:=λo v h=>by
  have:=I.base.fQ d o v h;rw[hd] at this;cases this
 have b:=I.hok d _ hd;obtain⟨h1,h2,f,g,c⟩:=id b;obtain⟨o,es,ep,e,r⟩:=id c;exact⟨a,o,I.swap hd (λ_ z=>by cases z) (λ_ z=>by cases z) (λ_ z=>by cases z) a ⟨e,b⟩⟩
theorem Inv.Ft{o:Obj}(I:Inv X pins σ H s)(hd:H d=some (.bz o (.dK kvs)))(a:∀o v,X.H₀ d=some (.bz o v)->False):Inv X pins σ (upd H d (.dK kvs)) s:=
 I.swap hd (λ_ z=>by cases z) (λ_ z=>by cases z) (λ_ z=>by cases z) a (I.hok d _ hd).2
end
def vc(a:Addr)(o:Obj)(ks:List Key):It:=
 ⟨λi H=>∃kvs,H a=some (.bz o (.dK kvs))/\kvs.map (·.1)=ks/\i<ks.length,λi H x H'=>H'=H/\∃k,ks[i]?=some k/\x=kV k,λi H=>∃kvs,H a=some (.bz o (.dK kvs))/\kvs.map (·.1)=ks/\ks.length<=i⟩
theorem Oo{k:Key}{v:Value}(h:jB k v=true):RelV (kV k) v:=by
 rcases g_ h with⟨i,t,rfl,rfl⟩|⟨x,t,rfl,rfl⟩
 .exact⟨t,rfl⟩
 .exact⟨t,rfl⟩
theorem wK{X:Cx}{pins:aQ}{σ:St}{H:Hp}{s:Shared}{a:Addr}{o:Obj}{kvs:List (Key×V)}{es:Array DictEntry}{ep:Nat}(I:Inv X pins σ H s)(h:H a=some (.bz o (.dK kvs)))(c:o.data=.dict es ep):(a==sysModules)=false/\∃b:List (Key×Value),b.map (·.1)=kvs.map (·.1)/\s.heap.DictAt (cO X.prog X.w) a b ep:=by
 obtain⟨e,hz,h2,b,d,g⟩:=(show bQ X.prog X.w H s.heap a (.bz o (.dK kvs)) from I.hok a _ h);obtain⟨o',i,j,f,hc,hd,r⟩:=g;rw[e] at f;cases f;rw[c] at hd;cases hd;refine⟨h2,b,?_,⟨o,es,e,hc,c,r⟩⟩;clear r h2 h e hz;unfold KV at d;induction d with
 |nil=>rfl
 |cons p t k=>rw[cB,cB,k,p.1]
theorem QM{P:Program}{w:World}{K:Frag}{tg:Expr}(a it:Addr){o:Obj}{l:List Key}{es:Array DictEntry}{ep:Nat}(C:o.data= .dict es ep):Turn P w K tg (vc a o l) [it] it (λi h=>h.IsKeyIter it a i l.length ep) where
 mem:=by simp
 obj:=λi h st b f=>by
  have e:b=it:=by simpa using f
  subst e
  obtain⟨o,e,c,d⟩:=st
  exact⟨o,e,λv z=>by rw[d] at z;cases z⟩
 keep:=λi h h' st k=>st.at λo e=>k it (by simp) o e
 item:=by
  intro X r t u hc i pins s σ H E I p st x
  subst r t u
  obtain⟨kvs,h1,h2,F⟩:=x
  obtain⟨G,m,q,g⟩:=wK I h1 C
  have hl:m.length=l.length:=by rw[<-h2,<-q,aR]
  obtain⟨f0,f1,f2,y,f4,A⟩:=p it (by simp)
  obtain⟨B,D⟩:∃B,m[i]? =some B:=⟨m[i]'(by omega),bO _⟩
  have J:l[i]? =some B.1:=by rw[<-h2,<-q,bH,D];rfl
  rw[<-hl] at st
  refine wpAny_pyNext_dict_item (knd:=cO X.prog X.w) st g D λkey h' n j L=> ?_
  have M:Inv X pins σ H {s with heap:=h'}:=I.turned (t':=s.toks) (λb o f e=>(L.2 b f).trans e) f0 f1 y f4 A
  obtain⟨o',e,c,d⟩:=id j
  rw[hl] at j
  exact⟨key,rfl,o6 (s:={s with heap:=h'}) e c d (by decide) ⟨_,H,M,Oo n,⟨rfl,_,J,rfl⟩,j,λb f=>(p b f).1⟩⟩
 done:=by
  intro X r t u hc i pins s σ H E I p st x
  subst r t u
  obtain⟨kvs,h1,h2,F⟩:=x
  obtain⟨G,m,q,g⟩:=wK I h1 C
  have hl:m.length=l.length:=by rw[<-h2,<-q,aR]
  obtain⟨f0,f1,f2,y,f4,A⟩:=p it (by simp)
  rw[<-hl] at st
  exact wpAny_pyNext_dict_end (knd:=cO X.prog X.w) (I.ok.hd hc) st g (mj (by omega)) λh' N=>⟨rfl,I.turned (t':=s.toks) (λb o f e=>N b o f e) f0 f1 y f4 A⟩
 self:=λ_ _ _ _ _ st h=>wpAny_pyIter_keyiter st h
def KG(tl:TE):TI:=λσ H R=>tl σ H λx H1=>∃a o kvs,x=.ref a/\H1 a=some (.bz o (.dK kvs))/\R (vc a o (kvs.map (·.1))) H1
theorem Nt{X:Cx}{tg l:Expr}{tl:TE}(hl:PE X l tl):PI X tg l (KG tl):=by
 intro pins s σ H R I h;refine aK (hl pins s σ H _ I h) λv c ⟨x,H1,d,k,m⟩=>?_;obtain⟨a,o,kvs,e,g,q⟩:=m;subst e;cases k;obtain⟨e,_,h2,i,y,n⟩:=(show bQ X.prog X.w H1 c.heap a (.bz o (.dK kvs)) from d.hok a _ g);obtain⟨o',es,ep,j,hc,hd,r⟩:=id n;rw[e] at j;cases j;obtain⟨p,i,t,f⟩:=wK d g hd;have hl:(kvs.map (·.1)).length=i.length:=by rw[<-t,aR]
 refine wpAny_pyIter_dict (knd:=cO X.prog X.w) p f ?_;refine⟨c.heap.objs.size,[c.heap.objs.size],_,_,H1,rfl,d.kept (t':=c.toks) λb o e=>bP _ e,QM a _ hd,⟨_,eT _ rfl,rfl,by rw[hl];rfl⟩,λb u=>?_,q⟩;have e:b=c.heap.objs.size:=by simpa using u
 subst e;exact d.jY (aI _) (d.hok.fresh (aI _))
end L2
namespace DP
open L2
def keyOf:Key->D
 |.inl i=>.int i
 |.inr x=>.str x
theorem OB{mg:aq}{ι:Io}{n:Nat}{H:Hp}(k:Key):RV mg ι n H (keyOf k) (kV k):=by
 cases k<;>rfl
theorem RK.mY{mg:aq}{ι:Io}{H:Hp}:∀{ds:List (Key×D)} {a:List (Key×V)} {n:Nat},RK mg ι n H ds a->a.map (·.1)=ds.map (·.1)
 |[],a,_,h=>by have h':a=[]:=h;rw[h'];rfl
 |d::ds,a,n,h=>by
  obtain⟨x,r,rfl,_,b⟩:=h;rw[cB,cB,RK.mY b]
theorem Le{mg:aq}{A:Ar}{ι:Io}{H:Hp}{q:Nat}{o:Obj}{kvs:List (Key×D)}(b:q<A.length):jo mg A ι H (vc (ι q) o (kvs.map (·.1))) (kvs.map λp=>keyOf p.1) (λA'=>A'[q]?=some (.bx o kvs)) where
 go:=λi d f a H1 hd e r hc=>by
  obtain⟨xs,h1,h2⟩:=r.bx hc;rw[e.ag q b] at h1;have hi:=(bR.mp hd).1;rw[aR] at hi;refine⟨⟨xs,h1,RK.mY h2,by rw[aR];exact hi⟩,λx H' y=>?_⟩;obtain⟨rfl,k,c,rfl⟩:=y;refine⟨r.refl,r,?_⟩;rw[bH,bO hi] at hd c;cases hd;cases c;exact OB _
 stop:=λf a H1 e r hc=>by
  obtain⟨xs,h1,h2⟩:=r.bx hc;rw[e.ag q b] at h1;exact⟨xs,h1,RK.mY h2,by simp⟩
@[irreducible] def pB(r:Nat)(A:Ar)(R:List D->(Ar->Prop)->Ar->Prop):Prop:=match A[r]? with
 |some (.bx o kvs)=>R (kvs.map λp=>keyOf p.1) (λA'=>A'[r]?=some (.bx o kvs)) A
 |_=>False
def pe(m:aM):gR:=λτ A R=>m τ A λx A1=>match x with
 |.ref r=>pB r A1 R
 |_=>False
section
variable{X:Cx}{N:En}{tg e:Expr}{m:aM}
theorem vY(f:PE X e (up X.mg N m)):PI X tg e (iy X.mg N (pe m)):=mU (Nt f) λσ H Q q=>by
 obtain⟨A,ι,τ,R,S,q,k⟩:=q;refine⟨A,ι,τ,_,S,q,λx c b H1 u a g d h=>?_⟩;cases x with
 |ref r=>
  obtain⟨i,rfl⟩:=h;have a:pB r c R:=a;unfold pB at a;split at a
  .rename_i o kvs e
   obtain⟨xs,h1,h2⟩:=d.bx e;refine⟨_,o,xs,rfl,h1,?_⟩;rw[RK.mY h2];exact k _ _ c b H1 _ a g d (Le i)
  .exact a.elim
 |_=>exact a.elim
def Fl(r:Nat)(o:Obj)(A2:Ar)(Q:Ar->Prop):Prop:=∃kvs,A2[r]?=some (.bx o kvs)/\Q (A2.set r (.dct kvs))
theorem BK{σ:L2.St}{H:Hp}{A:Ar}{ι:Io}{τ:bq}{r:Nat}{kvs:List (Key×D)}{xs:List (Key×V)}{o:Obj}(S:dj X.mg N A ι τ σ H)(e:A[r]?=some (.dct kvs))(h1:H (ι r)=some (.dK xs))(h2:RK X.mg ι A.length H kvs xs):
  dj X.mg N (A.set r (.bx o kvs)) ι τ σ (upd H (ι r) (.bz o (.dK xs)))/\Ext A ι H (A.set r (.bx o kvs)) ι (upd H (ι r) (.bz o (.dK xs))):=by
 have hl:=(bR.mp e).1;have E:=S.ra.kR (o:=.bz o (.dK xs)) (c:=.bx o kvs) hl;obtain⟨ra,a⟩:=S.ra.put (c':=.bx o kvs) (o:=.bz o (.dK xs)) e h1 rfl ⟨_,ee,by simpa using RK.ext E kvs xs h2⟩;exact⟨S.next a ra,a⟩
theorem BJ{mg:aq}{H:Hp}{A:Ar}{ι:Io}{r:Nat}{kvs:List (Key×D)}{o:Obj}(ra:RA mg ι H A)(e:A[r]?=some (.bx o kvs)):∃xs,H (ι r)=some (.bz o (.dK xs))/\RA mg ι (upd H (ι r) (.dK xs)) (A.set r (.dct kvs))/\Ext A ι H (A.set r (.dct kvs)) ι (upd H (ι r) (.dK xs)):=by
 obtain⟨xs,h1,h2⟩:=ra.bx e;have hl:=(bR.mp e).1;have E:=ra.kR (o:=.dK xs) (c:=.dct kvs) hl;obtain⟨a,b⟩:=ra.put (c':=.dct kvs) (o:=.dK xs) e h1 rfl ⟨_,ee,by simpa using RK.ext E kvs xs h2⟩;exact⟨xs,h1,a,b⟩
end
theorem Cq{A:Ar}{r:Nat}{o:Obj}{kvs:List (Key×D)}{R:List D->(Ar->Prop)->Ar->Prop}(h:A[r]?=some (.bx o kvs))(k:R (kvs.map λp=>keyOf p.1) (λA'=>A'[r]?=some (.bx o kvs)) A):pB r A R:=by
 unfold pB;rw[h];exact k
theorem Lb{A:Ar}{r:Nat}{o:Obj}{kvs:List (Key×D)}{y v:D}{k:Key}{R:DK}(h:A[r]?=some (.bx o kvs))(a:fR y=some k)(b:bf kvs k=some v)(q:R v A):jA r y A R:=by
 unfold jA;rw[h];simp only[a,b];exact q
@[irreducible] def anyR(r:Nat)(A:Ar)(R:DK):Prop:=match A[r]? with
 |some (.lst xs)=>(match iH xs with
  |some bs=>R (.bl (bs.any id)) A
  |none=>False)
 |_=>False
end DP
end
namespace KO
open PySem PySem.W PyProof.Rows
section
variable{O:KeyOrd}{key:Nat->O.α}{n:Nat}{cmp:Nat->Nat->(Bool->Shared->Prop)->Shared->Prop}{s:Shared}
variable(hc:∀i j,i<n->j<n->∀C:Bool->Shared->Prop,C (O.blt (key i) (key j)) s->cmp i j C s)
include hc
end
end KO
section
open PySem PySem.Spec PyProof.Rows
namespace L2
def DT:R2:=λx y H Q=>∃l k xs,x=.ref l/\y=.int k/\H l=some (.lst xs)/\0<=k/\k<2 ^ 20/\xs.length*k.toNat<=100000/\
 ∀p,H p=none->Q (.ref p) (upd H p (.lst (replicate k.toNat xs).flatten))
theorem D3{α:Type}:∀k:Nat,(replicate k ([]:List α)).flatten=[]
 |0=>rfl
 |k+1=>by simp[jJ,D3 k]
theorem MW{X:Cx}:a_ X (binaryOp .Mult) DT:=by
 intro pins s σ H x y v u Q I f g h;obtain⟨l,k,xs,rfl,rfl,i,h1,h2,hz,q⟩:=h;cases f;obtain⟨t,rfl⟩:=g;obtain⟨z,its,n,r,e⟩:=(show bQ X.prog X.w H s.heap l (.lst xs) from I.hok l _ i);have hl:=r.length;have c:its.toArray.size*k.toNat<=100000:=by rw[cA,<-hl];exact hz
 have p:its.toArray.size*(if its.toArray.isEmpty=true then 0 else k.toNat)<=100000:=by split<;>omega
 have d:foldl (λj m=>j++m) #[] (replicate (if its.toArray.isEmpty=true then 0 else k.toNat) its.toArray)=(replicate k.toNat its).flatten.toArray:=by
  cases its with
  |nil=>
   rw[D3];rfl
  |cons a b=>
   have:=foldl_rep (a::b) k.toNat [];rw[gx] at this;exact this
 refine wpAny_binaryOp_repeat_ref (T:="list") (U:="int") (by decide) ⟨_,e,rfl⟩ (λs'=>typeIs_int s' k t) noFill_list_mul PySem.F.fills_int_mul PySem.F.slot_int_rmul repeat_list PySem.F.slot_int_index.lookup
  (ku PySem.F.slot_int_rmul (typeIs_int s k t) PySem.F.entry_int_rmul (PySem.F.args_int_rmul_2 _ _) (int___rmul___int_list k t l its.toArray n)
   ⟨e,rfl,⟨_,e,rfl⟩,ku PySem.F.slot_list_mul ⟨_,e,rfl⟩ PySem.F.entry_list_mul (PySem.F.args_list_mul_2 _ _)
    (AutoListH.list___mul___list_int_3 l its.toArray n k t (by simp[Builtin.List.listFitsIndex];omega) (by omega) (by simp only[Builtin.List.listTooLong,sizeLine_eq];simp;simp at c;omega)) ⟨e,?_⟩⟩)
 rw[d];refine⟨.ref s.heap.objs.size,_,I.laid (t':=s.toks) (o:=.lst (replicate k.toNat xs).flatten) (λb A q=>bP _ q) (aI _) ?_,rfl,q _ (I.hok.fresh (aI _))⟩;exact⟨by rw[len_rep,Nat.mul_comm];exact dU hz (by decide),_,0,r.rep k.toNat,eT _ rfl⟩
end L2
namespace DP
open L2
@[irreducible] def tZ(r:Nat)(k:Int)(A:Ar)(R:DK):Prop:=match A[r]? with
 |some (.lst xs)=>0<=k/\k<2 ^ 20/\xs.length*k.toNat<=100000/\R (.ref A.length) (A++[.lst (replicate k.toNat xs).flatten])
 |_=>False
def yq:d8:=λx y A R=>match x,y with
 |.ref r,.int k=>tZ r k A R
 |_,_=>False
theorem aj.append{mg:aq}{ι:Io}{H:Hp}{n:Nat}:∀{ds:List D} {c:List V} {b:List D} {a:List V},aj mg ι n H ds c->aj mg ι n H b a->aj mg ι n H (ds++b) (c++a)
 |[],c,b,a,h,h'=>by have h:c=[]:=h;rw[h];exact h'
 |d::ds,c,b,a,h,h'=>by
  obtain⟨v,r,rfl,h1,h2⟩:=h;exact⟨v,r++a,rfl,h1,aj.append h2 h'⟩
theorem aj.rep{mg:aq}{ι:Io}{H:Hp}{n:Nat}{ds:List D}{a:List V}(h:aj mg ι n H ds a):∀k:Nat,aj mg ι n H (replicate k ds).flatten (replicate k a).flatten
 |0=>rfl
 |k+1=>by
  rw[jJ,jJ,nS,nS];exact aj.append h (aj.rep h k)
theorem HY{mg:aq}:dJ mg DT yq:=by
 intro x y A ι H u v R Q ra b c h k;unfold yq at h;split at h
 .rename_i r i
  obtain⟨_,rfl⟩:=b;cases c;unfold tZ at h;split at h
  .rename_i xs e
   obtain⟨d,f,a⟩:=ra.lst e;obtain⟨h1,h2,g,q⟩:=h;exact⟨_,i,d,rfl,rfl,f,h1,h2,by rw[<-aj.length a];exact g,λp j=>jf k ra (aj.rep a _) q j⟩
  .exact h.elim
 .exact h.elim
theorem Oq{A:Ar}{r:Nat}{k:Int}{xs:List D}{R:DK}(h:A[r]?=some (.lst xs))(h0:0<=k)(h1:k<2 ^ 20)(h2:xs.length*k.toNat<=100000)(q:R (.ref A.length) (A++[.lst (replicate k.toNat xs).flatten])):tZ r k A R:=by
 unfold tZ;simp only[h];exact⟨h0,h1,h2,q⟩
section
variable{X:Cx}{N:En}{a b:Expr}{ma mb:aM}{pos:Pos}
theorem Ie(c:PE X a (up X.mg N ma))(d:PE X b (up X.mg N mb)):PE X (.BinOp a .Mult b pos) (up X.mg N (dm yq ma mb)):=mP MW HY c d
end
section
variable{es:List Expr}{env:Env}{p:Pos}
theorem j8{l i}:starEach (.Tuple l i p::es) env=(false,eval (.Tuple l i p) env)::starEach es env:=rfl
theorem fT{l}:starEach (.List l p::es) env=(false,eval (.List l p) env)::starEach es env:=rfl
theorem dH{c i}:starEach (.Constant c i p::es) env=(false,eval (.Constant c i p) env)::starEach es env:=rfl
theorem EZ{f a k}:starEach (.Call f a k p::es) env=(false,eval (.Call f a k p) env)::starEach es env:=rfl
theorem P4{l x n}:swapsWith (.List l p) (some x) n env=pure false:=rfl
end
theorem aj.reverse{mg:aq}{ι:Io}{H:Hp}{n:Nat}:∀{ds:List D} {a:List V},aj mg ι n H ds a->aj mg ι n H ds.reverse a.reverse
 |[],a,h=>by have h:a=[]:=h;rw[h];rfl
 |d::ds,a,h=>by
  obtain⟨v,r,rfl,h1,h2⟩:=h;rw[reverse_cons,reverse_cons];exact aj.append (aj.reverse h2) ⟨v,[],rfl,h1,rfl⟩
end DP
namespace L2
section
variable{X:Cx}
theorem kJ(hc:X.calm=true):eU X (.type "list") (λxs H Q=>∃(d:Addr) (kvs:List (Key×V)) (ns:List Str),xs=[.ref d]/\H d=some (.dK kvs)/\kvs.map (·.1)=ns.map Sum.inr/\ns.length<=1000/\∀l:Addr,H l=none->Q (.ref l) (upd H l (.lst (ns.map V.str)))):=by
 intro pins s σ H xs T Q I r h;obtain⟨d,kvs,ns,rfl,hd,A,U,q⟩:=h;obtain⟨u,rfl,G⟩:=vals1 r;cases G;obtain⟨hz,J,B,rel,dd⟩:=(show bQ X.prog X.w H s.heap d (.dK kvs) from I.hok d _ hd);obtain⟨ep,j⟩:=dd.dictAt;have c:kvs.length=ns.length:=by
  have:=bV List.length A;simpa using this
 have e:B.length=ns.length:=by rw[<-rel.len,c]
 have m:(1000:Nat)<=sizeLine:=by decide
 refine PySem.W.kdl_call (PySem.W.kdl_dict (knd:=cO X.prog X.w) (kvs:=B) (ep:=ep) J) (I.ok.hd hc) j (by rw[e];omega) λh' K acc c' k1 L a=>?_;have n:StrsAre acc.toList ns:=by
  refine Fe (by rw[uX,a.1,e]) λi v x C M=>?_;rw[Array.getElem?_toList] at C;obtain⟨k,y,N,D⟩:=a.2 i v C;obtain⟨p,O,P,_⟩:=rel.at N;have E:(kvs.map (·.1))[i]?=some k:=by rw[bH,O];exact bV some P
  rw[A,bH,M] at E;have R:k=Sum.inr x:=(Option.some.inj E).symm;rw[R] at D;rcases g_ (show jB (Sum.inr x) v=true from D) with⟨_,_,z,_⟩|⟨Y,t,z,S⟩
  .cases z
  .cases z;exact⟨t,S⟩
 have f:H s.heap.objs.size=none:=I.hok.fresh (aI _);refine⟨.ref s.heap.objs.size,upd H s.heap.objs.size (.lst (ns.map V.str)),?_,rfl,q _ f⟩;refine I.LX (t':=K) k1 (jq.new f _) λb o g=>?_;by_cases F:b=s.heap.objs.size
 .subst F
  rw[ee] at g;cases g;refine .inr ⟨λu z=>fV _ (bh z),?_⟩;refine⟨by rw[aR];omega,acc.toList,c',FE n,?_⟩;rw[Array.toArray_toList];exact L
 .rw[aV F] at g
  exact .inl g
end
end L2
namespace DP
open L2
@[irreducible] def sf(r:Nat)(A:Ar)(R:DK):Prop:=∃(kvs:List (Key×D)) (ns:List Str),A[r]?=some (.dct kvs)/\kvs.map (·.1)=ns.map Sum.inr/\ns.length<=1000/\R (.ref A.length) (A++[.lst (ns.map D.str)])
def CL:iD:=λvs A R=>match vs with
 |[.ref r]=>sf r A R
 |_=>False
theorem k8{A:Ar}{r:Nat}{kvs:List (Key×D)}{ns:List Str}{R:DK}(h:A[r]?=some (.dct kvs))(a:kvs.map (·.1)=ns.map Sum.inr)(b:ns.length<=1000)(k:R (.ref A.length) (A++[.lst (ns.map D.str)])):sf r A R:=by
 unfold sf;exact⟨kvs,ns,h,a,b,k⟩
theorem RK.Cu{mg:aq}{ι:Io}{n:Nat}{H:Hp}:∀{ds:List (Key×D)} {a:List (Key×V)},RK mg ι n H ds a->a.map (·.1)=ds.map (·.1)
 |[],a,h=>by have h:a=[]:=h;rw[h];rfl
 |p::ds,a,h=>by
  obtain⟨x,r,rfl,h1,h2⟩:=h;simp[RK.Cu h2]
theorem aj.Fd{mg:aq}{ι:Io}{n:Nat}{H:Hp}:∀ns:List Str,aj mg ι n H (ns.map D.str) (ns.map V.str)
 |[]=>rfl
 |x::ns=>⟨_,_,rfl,rfl,aj.Fd ns⟩
theorem kO{mg:aq}:iQ mg (λxs H Q=>∃(d:Addr) (kvs:List (Key×V)) (ns:List Str),xs=[.ref d]/\H d=some (.dK kvs)/\kvs.map (·.1)=ns.map Sum.inr/\ns.length<=1000/\∀l:Addr,H l=none->Q (.ref l) (upd H l (.lst (ns.map V.str)))) CL:=by
 intro ds A ι H f R Q ra rs h k;unfold CL at h;split at h
 .obtain⟨_,_,rfl,⟨_,rfl⟩,rfl⟩:=rs
  unfold sf at h;obtain⟨kvs,ns,h1,h2,a,b⟩:=h;obtain⟨xs,c,e⟩:=ra.dct h1;exact⟨_,xs,ns,rfl,c,by rw[RK.Cu e];exact h2,a,λl hl=>jf k ra (aj.Fd ns) b hl⟩
 .exact h.elim
section
variable{X:Cx}{N:En}{es:List Expr}{m:Rh}{me:aM}{e:Expr}{p pos:Pos}
def D_(i:Nat)(m:aM):cZ:=λR τ A=>match lk τ i with
 |some (.int a)=>m τ A λy A1=>match y with
  |.int b=>R.nx (τ.set i (some (.int (a+b)))) A1
  |_=>False
 |_=>False
theorem Iw{i:Nat}{x:Str}{pos':Pos}(h:X.N.Nodup)(hi:X.N[i]?=some x)(j:Loc X.env.scope x)(l:PE X e (up X.mg N me))(m:X.fn x=true\/X.env.scope.names.lookup x=some .local:=by first|exact .inl rfl|exact .inr rfl|assumption):
  PS X (.AugAssign (.Name x pos') .Add e pos) (bB X.mg N (D_ i me)):=gG (NQ h hi j l K1 m) λQ σ H q=>by
 obtain⟨A,ι,τ,R,S,q,k⟩:=q;unfold D_ at q;cases c:lk τ i with
 |none=>rw[c] at q;exact q.elim
 |some d=>
  rw[c] at q;cases d with
  |int a=>
   obtain⟨v,h1,h2⟩:=S.rs.at' i _ c;cases h2;refine⟨.int a,h1,A,ι,τ,_,S,q,λy r n H1 u f g o p=>?_⟩;cases y with
   |int b=>
    cases p;exact⟨a,b,rfl,rfl,(k.nx.from g).here ((S.next g o).set (d:=.int (a+b)) (v:=.int (a+b)) rfl) f⟩
   |_=>exact f.elim
  |_=>exact q.elim
end
end DP
namespace L2
theorem boot_reversed:bootBuiltins "reversed"=some (.type "reversed"):=by decide+kernel
def vf(K:Frag)(a:Addr)(n:Nat):It:=
 ⟨λi H=>∃xs,aS K H a xs/\xs.length=n/\i<n,λi H x H'=>H'=H/\∀xs,aS K H a xs->xs[n - 1 - i]?=some x,λi H=>n<=i⟩
theorem QT{P:Program}{w:World}{K:Frag}{tg:Expr}(a it:Addr)(n:Nat):Turn P w K tg (vf K a n) [it] it (λi h=>PySem.Heap.IsRevIter h it a ((n:Int) - 1 - i)/\i<=n) where
 mem:=by simp
 obj:=λi h st b g=>by
  have e:b=it:=by simpa using g
  subst e
  obtain⟨⟨o,e,c,d⟩,_⟩:=st
  exact⟨o,e,λv z=>by rw[d] at z;cases z⟩
 keep:=λi h h' st k=>⟨st.1.at λo e=>k it (by simp) o e,st.2⟩
 item:=by
  intro X q r t hc i pins s σ H E I l st m
  subst q r t
  obtain⟨xs,C,S,hi⟩:=m
  obtain⟨its,F,p,hz⟩:=I.list C
  have D:xs[n - 1 - i]? =some (xs[n - 1 - i]'(by omega)):=bO (by omega)
  obtain⟨u,G,J⟩:=F.get D
  obtain⟨f0,f1,f2,y,f4,A⟩:=l it (by simp)
  have B:(n:Int) - 1 - i=((n - 1 - i:Nat):Int):=by omega
  have f:=st.1
  rw[B] at f
  refine PySem.wpAny_pyNext_rev_item f p.isList (x:=u) (by simpa using G) λh' j L=> ?_
  have M:Inv X pins σ H {s with heap:=h'}:=I.turned (t':=s.toks) (λb o g e=>(L.2 b g).trans e) f0 f1 y f4 A
  obtain⟨o,e,c,d⟩:=id j
  refine⟨u,rfl,o6 (s:={s with heap:=h'}) e c d (by decide) ⟨_,H,M,J,⟨rfl,λys N=>by rw[I.xH N C];exact D⟩,⟨?_,by omega⟩,λb g=>(l b g).1⟩⟩
  have O:(n:Int) - 1 - ((i+1:Nat):Int)=((n - 1 - i:Nat):Int) - 1:=by omega
  rw[O]
  exact j
 done:=by
  intro X q r t hc i pins s σ H E I l st m
  subst q r t
  have m:n<=i:=m
  obtain⟨f0,f1,f2,y,f4,A⟩:=l it (by simp)
  obtain⟨f,Q⟩:=st
  have B:(n:Int) - 1 - i= -1:=by omega
  rw[B] at f
  exact PySem.wpAny_pyNext_rev_end (I.ok.hd hc) f λh' R=>⟨rfl,I.turned (t':=s.toks) (λb o g e=>R b o g e) f0 f1 y f4 A⟩
 self:=λ_ _ _ _ _ st h=>PySem.wpAny_pyIter_revIter st.1 h
section
variable{X:Cx}
def KI(K:Frag)(ta:TA):TI:=λσ H R=>ta σ H λvs H1=>∃a xs,vs=[.ref a]/\aS K H1 a xs/\R (vf K a xs.length) H1
theorem Nv{tg l:Expr}{ta:TA}{p pos:Pos}(f:Gl X "reversed")(g:X.mg "reversed"=none)(i:PA X [l] ta)(j:starEach [l] X.env=[(false,eval l X.env)]:=by rfl):
  PI X tg (.Call (.Name "reversed" p) [l] [] pos) (KI X.K ta):=by
 intro pins s σ H R I h;refine Call_ (j4 I f g boot_reversed (nJ (aK (i pos pins s σ H _ I h) λw c ⟨x,H1,d,k,m⟩=>?_) j rfl));obtain⟨a,xs,e,n,q⟩:=m;subst e;obtain⟨u,rfl,r⟩:=vals1 k;cases r;obtain⟨its,t,pl,hz⟩:=d.list n;have hl:=t.length;refine PySem.call_reversed_list pl.isList ?_;have st:PySem.Heap.IsRevIter (c.heap.push (PySem.revObj a ((its.toArray.size:Int) - 1))) c.heap.objs.size a ((xs.length:Int) - 1 - (0:Nat)):=by
  refine⟨_,eT _ rfl,rfl,?_⟩;have e:((its.toArray.size:Int) - 1)=((xs.length:Int) - 1 - (0:Nat)):=by simp;omega
  rw[<-e];rfl
 refine PySem.wpAny_pyIter_revIter st ⟨c.heap.objs.size,[c.heap.objs.size],_,_,H1,rfl,d.kept (t':=c.toks) λb o e=>bP _ e,QT a _ _,⟨st,cV _⟩,λb v=>?_,q⟩;have e:b=c.heap.objs.size:=by simpa using v
 subst e;exact d.jY (aI _) (d.hok.fresh (aI _))
end
end L2
namespace DP
open L2
section
variable{mg:aq}{K:Frag}{A:Ar}{ι:Io}{H:Hp}
def fG(ds:List D):List D:=ds.zipIdx.map λp=>D.tup [.int ((p.2:Nat):Int),p.1]
theorem IG{ds:List D}{i:Nat}{d:D}(h:(fG ds)[i]?=some d):∃x,ds[i]?=some x/\d=.tup [.int ((i:Nat):Int),x]:=by
 unfold fG at h;rw[bH,zc] at h;cases e:ds[i]? with
 |none=>rw[e] at h;cases h
 |some x=>
  rw[e] at h;simp at h;exact⟨x,rfl,h.symm⟩
theorem Lc{q:Nat}{ds:List D}(f:q<A.length):jo mg A ι H (u_ K (ι q)) (fG ds) (λA'=>A'[q]?=some (.lst ds)) where
 go:=λi d c a H1 hd e r hc=>by
  obtain⟨xs,h1,h2⟩:=r.lst hc;rw[e.ag q f] at h1;obtain⟨x,j,rfl⟩:=IG hd;obtain⟨v,g,k⟩:=aj.get h2 j;refine⟨⟨xs,v,aS.of h1,g⟩,λy H' z=>?_⟩;obtain⟨p,m,h,rfl,rfl,l⟩:=z;have:=l xs (aS.of h1);rw[g] at this;cases this;have E:Ext c a H1 c a (upd H1 p (.tup [.int (i:Nat),v])):=r.rE h;exact⟨E,r.fix E λb o z=>by rw[aV (dN z h)];exact z,p,[.int (i:Nat),v],rfl,ee,_,_,rfl,rfl,_,_,rfl,RV.ext E _ _ k,rfl⟩
 stop:=λc a H1 e r hc=>by
  obtain⟨xs,h1,h2⟩:=r.lst hc;rw[e.ag q f] at h1;exact⟨xs,aS.of h1,by rw[<-aj.length h2];simp[fG]⟩
theorem Lg{q:Nat}{ds:List D}{n:Nat}(b:n=ds.length)(c:q<A.length):jo mg A ι H (vf K (ι q) n) ds.reverse (λA'=>A'[q]?=some (.lst ds)) where
 go:=λi d f a H1 hd e r hc=>by
  obtain⟨xs,h1,h2⟩:=r.lst hc;rw[e.ag q c] at h1;have hl:=aj.length h2;have hi:=(bR.mp hd).1;rw[zd] at hi;rw[List.getElem?_reverse hi] at hd;obtain⟨v,g,h⟩:=aj.get h2 hd;refine⟨⟨xs,aS.of h1,by omega,by omega⟩,λx H' y=>?_⟩;obtain⟨rfl,y⟩:=y;have:=y xs (aS.of h1);rw[b,g] at this;cases this;exact⟨r.refl,r,h⟩
 stop:=λf a H1 e r hc=>by
  show n<=ds.reverse.length;rw[zd];omega
end
@[irreducible] def jZ(f:List D->List D)(r:Nat)(A:Ar)(R:List D->(Ar->Prop)->Ar->Prop):Prop:=match A[r]? with
 |some (.lst ds)=>R (f ds) (λA'=>A'[r]?=some (.lst ds)) A
 |_=>False
theorem rT{f:List D->List D}{r:Nat}{A:Ar}{ds:List D}{R:List D->(Ar->Prop)->Ar->Prop}(h:A[r]?=some (.lst ds))(k:R (f ds) (λA'=>A'[r]?=some (.lst ds)) A):jZ f r A R:=by
 unfold jZ;rw[h];exact k
def KC(n:dg):gR:=λτ A R=>n τ A λvs A1=>match vs with
 |[.ref r]=>jZ fG r A1 R
 |_=>False
def KL(n:dg):gR:=λτ A R=>n τ A λvs A1=>match vs with
 |[.ref r]=>jZ List.reverse r A1 R
 |_=>False
section
variable{X:Cx}{N:En}{tg l:Expr}{n:dg}{p pos:Pos}
theorem vX{elts:List Expr}{k:Nat}{tpos:Pos}(g:X.mg "enumerate"=none)(h:PA X [l] (fD X.mg N n))(i:Gl X "enumerate":=by rfl)(j:starEach [l] X.env=[(false,eval l X.env)]:=by rfl):PI X (.Tuple elts k tpos) (.Call (.Name "enumerate" p) [l] [] pos) (iy X.mg N (KC n)):=mU (Nr i g h boot_enumerate j) λσ H Q q=>by
 obtain⟨A,ι,τ,R,S,q,k⟩:=q;refine⟨A,ι,τ,_,S,q,λm d b H1 t a o f c=>?_⟩;match m,a,c with
 |[.ref r],a,c=>
  obtain⟨_,_,rfl,⟨s,rfl⟩,rfl⟩:=c;have a:jZ fG r d R:=a;unfold jZ at a;split at a
  .rename_i ds e
   obtain⟨xs,h1,h2⟩:=f.lst e;exact⟨_,xs,rfl,aS.of h1,k _ _ d b H1 _ a o f (Lc s)⟩
  .exact a.elim
theorem Il(g:X.mg "reversed"=none)(h:PA X [l] (fD X.mg N n))(i:Gl X "reversed":=by rfl)(j:starEach [l] X.env=[(false,eval l X.env)]:=by rfl):PI X tg (.Call (.Name "reversed" p) [l] [] pos) (iy X.mg N (KL n)):=mU (Nv i g h j) λσ H Q q=>by
 obtain⟨A,ι,τ,R,S,q,k⟩:=q;refine⟨A,ι,τ,_,S,q,λm d b H1 t a o f c=>?_⟩;match m,a,c with
 |[.ref r],a,c=>
  obtain⟨_,_,rfl,⟨s,rfl⟩,rfl⟩:=c;have a:jZ List.reverse r d R:=a;unfold jZ at a;split at a
  .rename_i ds e
   obtain⟨xs,h1,h2⟩:=f.lst e;exact⟨_,xs,rfl,aS.of h1,k _ _ d b H1 _ a o f (Lg (aj.length h2).symm s)⟩
  .exact a.elim
end
end DP
namespace L2
section
variable{X:Cx}
def DU:V->List V->Hp->VK->Prop:=λx vs H Q=>∃d o kvs more,x=.ref d/\vs=[.ref o]/\d≠o/\H d=some (.dK kvs)/\H o=some (.dK more)/\kvs.length+more.length<=1000/\Q .ai (upd H d (.dK (jd kvs more)))
theorem CW:oi X "dict.update" DU:=by
 intro pins s σ H x y v z Q I i j h;obtain⟨d,o,kvs,a,rfl,rfl,b,hd,k,hz,q⟩:=h;cases i;obtain⟨u,rfl,l⟩:=j.one;cases l;obtain⟨A,m,c,k1,dd⟩:=rm I.hok hd;obtain⟨B,n,e,k2,f⟩:=rm I.hok k;have g:(1000:Nat)<=sizeLine:=by decide
 have l1:=k1.length;have l2:=k2.length;have lm:=xE a kvs;refine call_meetsIn slot_dict_update (dd.typeIs) PySem.F.entry_dict_update (PySem.F.args_dict_update_2 _ _) (PySem.meets_dict_update (cO X.prog X.w) d o b n) ?_;refine⟨c,e,dd,f,by omega,λh' h1 h2 p=>?_⟩;have r:∃q,h'.get? d=some q:=let ⟨q,_,_,t,_⟩:=h1;⟨q,t⟩;exact⟨.ai,_,q8 I (by rw[hd];exact True.intro) p r (v7 (by omega) m (k2.merge k1) h1),rfl,q⟩
theorem CmpOf.PZ{prog:Program}{w:World}{A:Around}{P:Nat->Value->Prop}(val:Nat->Str)(a:∀i v,P i v->∃t,v=.str (val i) t):
  CmpOf prog w A .Lt P (λi j=>decide ((val i).cps.toList<(val j).cps.toList)):=λi j b c s Q E hi d h=>by
 obtain⟨t,rfl⟩:=a i b hi;obtain⟨u,rfl⟩:=a j c d;exact PySem.P.lt_str h
theorem Ad(val:Nat->Str):∀k,argBest (λi j=>decide ((val i).cps.toList<(val j).cps.toList)) k<=k/\∀j,j<=k->¬(val j).cps.toList<(val (argBest (λi j=>decide ((val i).cps.toList<(val j).cps.toList)) k)).cps.toList
 |0=>⟨aI _,λj c=>by
  have:j=0:=by omega
  subst this;exact uN _⟩
 |k+1=>by
  obtain⟨h1,h2⟩:=Ad val k;have e:argBest (λi j=>decide ((val i).cps.toList<(val j).cps.toList)) (k+1)=if decide ((val (k+1)).cps.toList<(val (argBest (λi j=>decide ((val i).cps.toList<(val j).cps.toList)) k)).cps.toList)=true then k+1 else argBest (λi j=>decide ((val i).cps.toList<(val j).cps.toList)) k:=rfl
  rw[e];split
  .rename_i h
   rw[nQ] at h;refine⟨aI _,λj c a=>?_⟩;by_cases b:j=k+1
   .subst b
    exact uN _ a
   .exact h2 j (by omega) (List.lt_trans a h)
  .rename_i h
   rw[nQ] at h;refine⟨by omega,λj c=>?_⟩;by_cases b:j=k+1
   .subst b
    exact h
   .exact h2 j (by omega)
theorem G8(hc:X.calm=true):eU X (.builtin "min") (λxs H Q=>∃(d:Addr) (kvs:List (Key×V)) (ns:List Str),xs=[.ref d]/\Rd H d (.dK kvs)/\kvs.map (·.1)=ns.map Sum.inr/\ns≠[]/\∀m∈ns,(∀n∈ns,¬n.cps.toList<m.cps.toList)->Q (.str m) H):=by
 intro pins s σ H xs T Q I r h;obtain⟨d,kvs,ns,rfl,hd,D,y,q⟩:=h;obtain⟨u,rfl,F⟩:=vals1 r;cases F;have E:=uW.mpr y;obtain⟨hz,G,a,rel,dd⟩:=kP I.hok hd;obtain⟨ep,c⟩:=dd.dictAt;have g:kvs.length=ns.length:=by
  have:=bV List.length D;simpa using this
 have J:a.length=ns.length:=by rw[<-rel.length,g]
 have l:d<s.heap.objs.size:=by obtain⟨o,_,B,_⟩:=c;exact bh B
 have keys:∀i v,(∃k x,a[i]?=some (k,x)/\(cO X.prog X.w).is k v=true)->∃t:Tok,v=.str (ns.getD i default) t:=λi v ⟨k,x,h1,h2⟩=>by
  have K:=rel.keys;have f:(a.map (·.1))[i]?=some k:=by rw[bH,h1];rfl
  rw[<-K,D,bH] at f;cases e:ns[i]? with
  |none=>rw[e] at f;cases f
  |some n=>
   rw[e] at f;have f:k=Sum.inr n:=(Option.some.inj f).symm;subst f;rcases g_ (show jB (Sum.inr n) v=true from h2) with⟨_,_,z,_⟩|⟨U,t,z,L⟩
   .cases z
   .cases z
    refine⟨t,?_⟩;rw[za,e];exact L
 refine call_min_walk ?_;refine wpAny_pyIter_dict (knd:=cO X.prog X.w) G c ⟨s.heap.objs.size,_,_,_,_,_,_,rfl,Walks.dictKeys (knd:=cO X.prog X.w) (A:=X.A.in1) (I.ok.hd hc) s.heap.objs.size d (cU l) a ep,⟨⟨_,eT _ rfl,rfl,rfl⟩,?_⟩,λb hb=>?_,by omega,CmpOf.PZ (λi=>ns.getD i default) keys,λv h' W M C=>?_⟩
 .obtain⟨o,es,B,r⟩:=c
  exact⟨o,es,bP _ B,r⟩
 .show b<(s.heap.push _).objs.size
  rw[size_push'];rcases cu.mp hb with e|hb
  .rw[e];exact Nat.lt_succ_self _
  .rw[b_.mp hb];exact Nat.lt_succ_of_lt l
 .obtain⟨t,rfl⟩:=keys _ v M
  obtain⟨Y,N⟩:=Ad (λi=>ns.getD i default) (a.length - 1);have hi:argBest (λi j=>decide ((ns.getD i default).cps.toList<(ns.getD j default).cps.toList)) (a.length - 1)<ns.length:=by omega
  have p:ns.getD (argBest (λi j=>decide ((ns.getD i default).cps.toList<(ns.getD j default).cps.toList)) (a.length - 1)) default∈ns:=by
   rw[za,bO hi];exact getElem_mem hi
  have O:=q _ p λn P=>by
   obtain⟨j,R,e⟩:=qx P;have:=N j (by omega);rw[za,bO R] at this;rw[<-e];exact this
  exact⟨.str _,H,I.kept λb o e=>C b o (λz=>by
   have S:b=s.heap.objs.size:=by simpa using z
   exact absurd (bh e) (by rw[S];exact fV _)) (bP _ e),⟨_,rfl⟩,O⟩
end
end L2
namespace DP
open L2
def Hz(mk mv:aM):aM:=λτ A R=>mk τ A λk A1=>mv τ A1 λv A2=>match fR k with
 |some ky=>R (.ref A2.length) (A2++[.dct [(ky,v)]])
 |none=>False
theorem AW{X:Cx}{N:En}{pos:Pos}{k v:Expr}{mk F:aM}(P:PE X k (up X.mg N mk))(T:PE X v (up X.mg N F)):PE X (.Dict [some k] [v] pos) (up X.mg N (Hz mk F)):=
 dZ (M9 (NL P T NO) rfl rfl (by simp) (show 1<=15 by decide)) λσ H Q q=>by
  obtain⟨A,ι,τ,R,S,q,U⟩:=q;intro p n;have G:=S.ra.rE (o:=.dK []) n;have I:dj X.mg N A ι τ σ (upd H p (.dK [])):=S.next G (S.ra.fix G λb o z=>by rw[aV (dN z n)];exact z);have off:∀r,r<A.length->ι r≠p:=λr g z=>by
   obtain⟨o,h1,_⟩:=S.ra.im r g;rw[z,n] at h1;cases h1
  refine⟨A,ι,τ,_,I,q,λJ V B H1 x W K Y Z=>?_⟩;refine⟨V,B,τ,_,I.next K Y,W,λw a i H2 y t e2 L v2=>?_⟩;have d:=K.trans e2;have M:H2 p=some (.dK []):=d.mo p _ ee off;have f:∀r,r<a.length->i r≠p:=λr g z=>by
   by_cases hl:r<A.length
   .rw[d.ag r hl] at z;exact off r hl z
   .have:=d.nw r (by omega) g
    rw[z,ee] at this;cases this
  have t:(match fR J with|some l=>R (.ref a.length) (a++[.dct [(l,w)]])|none=>False):=t;cases D:fR J with
  |none=>rw[D] at t;exact t.elim
  |some l=>
  rw[D] at t;have ex:x=kV l:=kZ D Z;subst ex;refine⟨M,[(l,y)],rfl,show 1<=15 by decide,?_⟩;have em:jd [] [(l,y)]=[(l,y)]:=rfl;rw[em];obtain⟨j,e,at2⟩:∃j:Io,(∀r,r<a.length->j r=i r)/\j a.length=p:=⟨λr=>if r=a.length then p else i r,λr h=>by
   show(if r=a.length then p else i r)=i r;rw[ay (by omega)],by
   show(if a.length=a.length then p else i a.length)=p;rw[aA rfl]⟩
  have O:∀b o,ia o=false->H2 b=some o->upd H2 p (.dK [(l,y)]) b=some o:=λb o m z=>by
   rw[aV]
   .exact z
   .rintro rfl
    rw[M] at z;cases z;cases m
  refine U (.ref a.length) (a++[.dct [(l,w)]]) j _ _ t ⟨?_,λr h=>?_,S.ra.im,λb o h hn=>?_,λr h1 h2=>?_,λb o h=>?_⟩ ⟨λr c h=>?_,λr s g hs h=>?_⟩ ⟨by simp,by rw[at2]⟩
  .have:=d.len;simp;omega
  .rw[e r (dz h d.len)];exact d.ag r h
  .have u:b≠p:=dN h n
   rw[aV u];exact d.mo b o (by rw[aV u];exact h) hn
  .by_cases g:r<a.length
   .rw[e r g]
    have:=d.nw r h1 g;rw[aV (f r g)] at this;exact this
   .have:r=a.length:=by simp at h2;omega
    subst this;rw[at2];exact n
  .have u:b≠p:=dN h n
   obtain⟨o',h'⟩:=d.al b o (by rw[aV u];exact h);exact⟨o',by rw[aV u];exact h'⟩
  .by_cases g:r<a.length
   .rw[gz g] at h
    have:=CO.ag (n':=(a++[C.dct [(l,w)]]).length) (ι':=j) (H':=upd H2 p (.dK [(l,y)])) (by simp) e O (λo z=>by rw[aV (f r g)];exact z) c (L.gj r c h);rw[e r g];exact this
   .have E:r=a.length:=by
     have:=(bR.mp h).1;simp at this;omega
    subst E;simp at h;subst h;rw[at2];exact⟨_,ee,y,[],rfl,RV.ag (by simp) e O w y v2,rfl⟩
  .simp at g hs
   by_cases h1:r=a.length
   .by_cases h2:s=a.length
    .rw[h1,h2]
    .subst h1
     rw[at2,e s (by omega)] at h;exact absurd h.symm (f s (by omega))
   .by_cases h2:s=a.length
    .subst h2
     rw[at2,e r (by omega)] at h;exact absurd h (f r (by omega))
    .rw[e r (by omega),e s (by omega)] at h
     exact L.inj r s (by omega) (by omega) h
def rS(A:Ar):D->Bool
 |.ref r=>match A[r]? with
  |some (.dct _)=>true
  |_=>false
 |_=>false
def AI(f:iR)(mo:aM)(m:dg):aM:=λτ A R=>mo τ A λx A1=>rS A1 x=true/\m τ A1 λvs A2=>f x vs A2 R
theorem Co{A:Ar}{r:Nat}{kvs:List (Key×D)}(h:A[r]?=some (.dct kvs)):rS A (.ref r)=true:=by unfold rS;simp only[h]
section
variable{X:Cx}{N:En}{e o:Expr}{es:List Expr}{mo:aM}{m:dg}{apos cpos:Pos}{f:iR}{r:V->List V->Hp->VK->Prop}{name:Str}{id:String}
theorem AY(w:PlainAttrs "dict")(slot:Slot "dict" name id)(h:typeOf (.builtin id)=pure (.type "method_descriptor"))(y:oj X id r)(hd:kE X.mg X.K "dict" r f)(z:PE X o (up X.mg N mo))(B:PA X (e::es) (fD X.mg N m))
  (b:attributeBase o name X.env (eval o X.env)=eval o X.env:=by rfl)
  (d:((backTo cpos (starEach (e::es) X.env)).all (λx=> !x.1)&&(backToKw cpos (keywordEach [] X.env)).all (λx=>x.1.isSome)
   &&decide ((e::es).length+([]:List Keyword).length+(if ([]:List Keyword).isEmpty then 0 else 1)<30))=true:=by rfl)
  (c:(apos.endLine==cpos.line)=true:=by rfl)(C:starEach (e::es) X.env=(false,eval e X.env)::starEach es X.env:=by rfl)(a:(backTo cpos (starEach es X.env)).any (·.1)=false:=by rfl):
  PE X (.Call (.Attribute o name apos) (e::es) [] cpos) (up X.mg N (AI f mo m)):=dZ (Di w slot h y z B b d c C a) λσ H Q q=>by
 obtain⟨A,ι,τ,R,S,q,k⟩:=q
 refine⟨A,ι,τ,_,S,q,λx D i H1 u j p s t=> ?_⟩
 obtain⟨g,j⟩:=j
 refine⟨?_,D,i,τ,_,S.next p s,j,λys E l H2 n F v G v2=> ?_⟩
 .cases x with
  |ref q=>
   obtain⟨_,rfl⟩:=t
   unfold rS at g
   simp only at g
   split at g
   .rename_i kvs I
    obtain⟨n,h1,_⟩:=s.dct I
    exact .inr (.inr (.inl ⟨rfl,.inl ⟨n,h1⟩⟩))
   .cases g
  |_=>cases g
 .exact hd x ys E l H2 _ n R Q G (RV.ext v x u t) v2 F (k.from (p.trans v))
end
def je(kvs more:List (Key×D)):List (Key×D):=more.foldl (λacc p=>cG acc p.1 p.2) kvs
@[irreducible] def uz(r q:Nat)(A:Ar)(R:DK):Prop:=match A[r]?,A[q]? with
 |some (.dct kvs),some (.dct more)=>r≠q/\kvs.length+more.length<=1000/\R .ai (A.set r (.dct (je kvs more)))
 |_,_=>False
theorem Fy{A:Ar}{r q:Nat}{kvs a:List (Key×D)}{R:DK}(h1:A[r]?=some (.dct kvs))(h2:A[q]?=some (.dct a))(b:r≠q)(hz:kvs.length+a.length<=1000)(k:R .ai (A.set r (.dct (je kvs a)))):uz r q A R:=by
 unfold uz;simp only[h1,h2];exact⟨b,hz,k⟩
def yT:iR:=λx vs A R=>match x,vs with
 |.ref r,[.ref q]=>uz r q A R
 |_,_=>False
theorem AR{mg:aq}{K:Frag}:kE mg K "dict" DU yT:=by
 intro x ds A ι H u s R Q ra j rs h k;unfold yT at h;split at h
 .rename_i r q
  obtain⟨e,rfl⟩:=j;obtain⟨_,_,rfl,⟨l,rfl⟩,rfl⟩:=rs;unfold uz at h;split at h
  .rename_i kvs a f m
   obtain⟨b,hz,h⟩:=h;obtain⟨xs,h1,g⟩:=ra.dct f;obtain⟨ys,h2,i⟩:=ra.dct m;have l1:=RK.length g;have l2:=RK.length i;refine⟨_,_,xs,ys,rfl,rfl,λz=>b (ra.inj r q e l z),h1,h2,by omega,?_⟩;have E:=ra.kR (o:=.dK (jd xs ys)) (c:=.dct (je kvs a)) e;have n:RK mg ι A.length H (je kvs a) (jd xs ys):=RK.fold i g;obtain⟨d,p⟩:=ra.put (c':=.dct (je kvs a)) (o:=.dK (jd xs ys)) f h1 rfl ⟨_,ee,by simpa using RK.ext E _ _ n⟩;exact k _ _ ι _ _ h p d rfl
  .exact h.elim
 .exact h.elim
@[irreducible] def sA(r:Nat)(A:Ar)(R:DK):Prop:=∃(kvs:List (Key×D)) (ns:List Str),(A[r]?=some (.dct kvs)\/∃o,A[r]?=some (.bx o kvs))/\kvs.map (·.1)=ns.map Sum.inr/\ns≠[]/\∀m∈ns,(∀n∈ns,¬n.cps.toList<m.cps.toList)->R (.str m) A
def CS:iD:=λvs A R=>match vs with
 |[.ref r]=>sA r A R
 |_=>False
theorem LZ{A:Ar}{r:Nat}{kvs:List (Key×D)}{ns:List Str}{R:DK}(h:A[r]?=some (.dct kvs)\/∃o,A[r]?=some (.bx o kvs))(b:kvs.map (·.1)=ns.map Sum.inr)(a:ns≠[])(k:∀m∈ns,(∀n∈ns,¬n.cps.toList<m.cps.toList)->R (.str m) A):sA r A R:=by
 unfold sA;exact⟨kvs,ns,h,b,a,k⟩
theorem HU{mg:aq}:iQ mg (λxs H Q=>∃(d:Addr) (kvs:List (Key×V)) (ns:List Str),xs=[.ref d]/\Rd H d (.dK kvs)/\kvs.map (·.1)=ns.map Sum.inr/\ns≠[]/\∀m∈ns,(∀n∈ns,¬n.cps.toList<m.cps.toList)->Q (.str m) H) CS:=by
 intro ds A ι H i R Q ra rs h k;unfold CS at h;split at h
 .obtain⟨_,_,rfl,⟨_,rfl⟩,rfl⟩:=rs
  unfold sA at h;obtain⟨kvs,ns,h1,h2,f,g⟩:=h;rcases h1 with h1|⟨o,h1⟩
  .obtain⟨xs,b,c⟩:=ra.dct h1
   exact⟨_,xs,ns,rfl,.inl b,by rw[RK.mY c];exact h2,f,λm e a=>k.here ra (g m e a) rfl⟩
  .obtain⟨xs,b,c⟩:=ra.bx h1
   exact⟨_,xs,ns,rfl,.inr ⟨o,b⟩,by rw[RK.mY c];exact h2,f,λm e a=>k.here ra (g m e a) rfl⟩
 .exact h.elim
@[irreducible] def pq(neg:Bool)(x:D)(r:Nat)(A:Ar)(R:DK):Prop:=∃(kvs:List (Key×D)) (k:Key),(A[r]?=some (.dct kvs)\/∃o,A[r]?=some (.bx o kvs))/\fR x=some k/\R (.bl (if neg then !(bf kvs k).isSome else (bf kvs k).isSome)) A
def rP(neg:Bool):d8:=λx y A R=>match y with
 |.ref r=>pq neg x r A R
 |_=>False
theorem Cm{neg:Bool}{x:D}{r:Nat}{A:Ar}{R:DK}{kvs:List (Key×D)}{k:Key}(h:A[r]?=some (.dct kvs)\/∃o,A[r]?=some (.bx o kvs))(a:fR x=some k)(q:R (.bl (if neg then !(bf kvs k).isSome else (bf kvs k).isSome)) A):pq neg x r A R:=by
 unfold pq;exact⟨kvs,k,h,a,q⟩
theorem AM{mg:aq}(neg:Bool):dJ mg (pW neg) (rP neg):=by
 intro x y A ι H u v R Q ra g i h k;unfold rP at h;split at h
 .rename_i f
  obtain⟨_,rfl⟩:=i;unfold pq at h;obtain⟨kvs,b,h1,j,h2⟩:=h;have ex:=kZ j g;subst ex;have fin:∀a,RK mg ι A.length H kvs a->Rd H (ι f) (.dK a)->pW neg (kV b) (.ref (ι f)) H Q:=λa c l=>by
   obtain⟨m,n⟩:=RK.get (k:=b) c;refine⟨_,eG a b,rfl,.inl ⟨a,b,l,rfl,rfl⟩,?_⟩;have p:(eG a b).isSome=(bf kvs b).isSome:=by
    cases q:bf kvs b with
    |none=>rw[n q];rfl
    |some d=>obtain⟨z,hz,_⟩:=m d q;rw[hz];rfl
   rw[p];exact k.here ra h2 rfl
  rcases h1 with h1|⟨o,h1⟩
  .obtain⟨a,e,c⟩:=ra.dct h1
   exact fin a c (.inl e)
  .obtain⟨a,e,c⟩:=ra.bx h1
   exact fin a c (.inr ⟨o,e⟩)
 .exact h.elim
section
variable{X:Cx}{N:En}{pos:Pos}{a b:Expr}{ma mb:aM}
theorem Bq(c:X.A.units+64<cLine)(d:PE X a (up X.mg N ma))(e:PE X b (up X.mg N mb))(f:behindInMarks .In b=false:=by rfl):PE X (.Compare a [.In] [b] pos) (up X.mg N (dm (rP false) ma mb)):=vV (xZ c) (AM false) d e f
theorem QA(c:X.A.units+64<cLine)(d:PE X a (up X.mg N ma))(e:PE X b (up X.mg N mb))(f:behindInMarks .In b=false:=by rfl):PT X (.Compare a [.In] [b] pos) (cH X.mg N (f7 (dm (rP false) ma mb))):=ju (xZ c) (AM false) d e f
end
def AH(m:aM):aM:=λτ A R=>(∃r kvs,A[r]?=some (.dct kvs)/\∀o,m τ (A.set r (.bx o kvs)) λx A2=>Fl r o A2 (R x))\/m τ A R
def OE(m:cZ):cZ:=λR τ A=>(∃r kvs,A[r]?=some (.dct kvs)/\∀o,m {nx:=λbI A2=>Fl r o A2 (R.nx bI),rt:=λ_ _=>False} τ (A.set r (.bx o kvs)))\/m R τ A
section
variable{X:Cx}{N:En}{e:Expr}{m:aM}
theorem AX(g:PE X e (up X.mg N m)):PE X e (up X.mg N (AH m)):=by
 intro pins s σ H Q I q;obtain⟨A,ι,τ,R,S,q,k⟩:=q;rcases q with⟨r,kvs,a,q⟩|q
 .obtain⟨xs,h1,h2⟩:=S.ra.dct a
  have hl:=(bR.mp a).1;obtain⟨n,o,p⟩:=I.fz h1;obtain⟨t,w⟩:=BK (o:=o) S a h1 h2;refine aK (g pins s σ _ (λu H'=>∃xs,H' (ι r)=some (.bz o (.dK xs))/\Q u (upd H' (ι r) (.dK xs))) p ⟨_,ι,τ,_,t,q o,λv A' ι' H' u b h x v2=>?_⟩) λv s' ⟨u,H',y,z,B,h',C⟩=>⟨u,_,y.Ft h' n,z,C⟩;obtain⟨i,c,b⟩:=b;have D:ι' r=ι r:=h.ag r (by simpa using hl);obtain⟨d,j,l,f⟩:=BJ x c;rw[D] at j l f;exact⟨d,j,k v _ ι' _ u b ((w.trans h).trans f) l (RV.ext f v u v2)⟩
 .exact g pins s σ H Q I ⟨A,ι,τ,R,S,q,k⟩
theorem IA{st:Stmt}{f:cZ}(g:PS X st (bB X.mg N f)):PS X st (bB X.mg N (OE f)):=by
 intro pins s σ H Q I q;obtain⟨A,ι,τ,R,S,q,k⟩:=q;rcases q with⟨r,kvs,a,q⟩|q
 .obtain⟨xs,h1,h2⟩:=S.ra.dct a
  have hl:=(bR.mp a).1;obtain⟨n,o,p⟩:=I.fz h1;obtain⟨t,v⟩:=BK (o:=o) S a h1 h2;refine aK (g pins s σ _ {nx:=λσ' H'=>∃xs,H' (ι r)=some (.bz o (.dK xs))/\Q.nx σ' (upd H' (ι r) (.dK xs)),rt:=λ_ _=>False,bk:=λ_ _=>False,ct:=λ_ _=>False} p ⟨_,ι,τ,_,t,q o,⟨λbI A' ι' σ' H' b i w x=>?_,λ_ _ _ _ _ z=>z.elim,λ_ _ _ _ _ z=>z.elim,λ_ _ _ _ _ z=>z.elim⟩⟩) λfl s' h=>?_
  .obtain⟨j,c,b⟩:=b
   have y:ι' r=ι r:=i.ag r (by simpa using hl);obtain⟨d,l,m,e⟩:=BJ w c;rw[y] at l m e;exact⟨d,l,k.nx bI _ ι' σ' _ b ((v.trans i).trans e) m (x.ext e)⟩
  .cases fl with
   |next=>
    obtain⟨σ',H',B,C,h',D⟩:=h;exact⟨σ',_,B.Ft h' n,D⟩
   |brk=>obtain⟨_,_,_,z⟩:=h;exact z.elim
   |cont=>obtain⟨_,_,_,z⟩:=h;exact z.elim
   |ret u=>obtain⟨_,_,_,_,_,z⟩:=h;exact z.elim
 .exact g pins s σ H Q I ⟨A,ι,τ,R,S,q,k⟩
end
end DP
end
namespace L2
theorem bL{N P:List PySem.Str}{sc:PySem.Scope}(kind:sc.kind=.function:=by rfl)(co:sc.isCoroutine=false:=by rfl)(gen:sc.isGenerator=false:=by rfl)(nd:N.Nodup:=by decide+kernel)(pre:N.take P.length=P:=by rfl)
 (par:∀x∈P,sc.names.lookup x=some .local\/sc.names.lookup x=some .cell:=by decide+kernel)(xX:∀y∈sc.names,y.2≠ .free:=by decide+kernel):bg N P sc:=⟨kind,co,gen,nd,pre,par,xX⟩
end L2
section
open PySem PySem.Spec PyProof.Rows
namespace DP
open L2
section
variable{X:Cx}{N:En}{pos pos':Pos}{e a b:Expr}{m ma mb:aM}{x:Str}(i:Nat)
theorem dS(a:X.N.Nodup)(b:PE X e (up X.mg N m))(hi:X.N[i]?=some x:=by rfl)(c:Loc X.env.scope x:=by first|exact .inl rfl|exact .inr rfl)(d:swapsWith e (some (.Name x pos')) pos.line X.env=pure false:=by rfl)(f:X.fn x=true\/X.env.scope.names.lookup x=some .local:=by first|exact .inl rfl|exact .inr rfl|assumption):
 PS X (.Assign [.Name x pos'] e pos) (bB X.mg N (lI i m)):=Bm a hi c b d f
theorem dG(a:X.N.Nodup)(hi:X.N[i]?=some x:=by rfl)(b:Loc X.env.scope x:=by first|exact .inl rfl|exact .inr rfl)(c:X.fn x=true\/X.env.scope.names.lookup x=some .local:=by first|exact .inl rfl|exact .inr rfl|assumption):PG X (.Name x pos) (lN X.mg N (gN i)):=Ik a hi b c
theorem pG(a:X.N.Nodup)(hi:X.N[i]?=some x:=by rfl)(b:Loc X.env.scope x:=by first|exact .inl rfl|exact .inr rfl)(c:X.fn x=true\/X.env.scope.names.lookup x=some .local:=by first|exact .inl rfl|exact .inr rfl|assumption):PG X (.Name x pos) (mZ i):=Dq a hi b c
end
section
variable{X:Cx}{N:En}{pos p:Pos}{e a b:Expr}{ma mb:aM}{x:Str}{es:List Expr}{k r n:Nat}{ps:List Str}{S:Ct}{RE:DX}{m:dg}
theorem dX(c:X.A.units+64<cLine)(d:PE X a (up X.mg N ma))(e:PE X b (up X.mg N mb))(f:vj b:=by exact λ_ _=>rfl):PE X (.Subscript a b pos) (up X.mg N (dm rV ma mb)):=Ia c d e f
theorem dL(F:aD X.prog X.w X.K X.mg X.base k x ps (aB X.mg n S))(c:dD r X.A)(d:Passes (aY X.prog X.w) X (EL X.mg N RE))(f:PA X (e::es) (fD X.mg N m))(g:k<=r:=by omega)(h:Gl X x:=by rfl)(a:(x==("__debug__":Str))=false:=by decide)
 (i:starEach (e::es) X.env=(false,eval e X.env)::starEach es X.env:=by rfl)(b:(backTo pos (starEach es X.env)).any (·.1)=false:=by rfl):
 PE X (.Call (.Name x p) (e::es) [] pos) (up X.mg N (oQ n S RE m)):=H8 F (c.mono g) d f h a i b
end
theorem bW{P:Program}{w:World}{K:Frag}{mg:aq}{base:Heap}{x:Str}{st:Stmt}{Nm ps:List Str}{k n:Nat}{S:Ct}(T:TopD K mg x st ps)(Sc:bg Nm ps (aJ st))
  (b:∀{N:En} {RE:DX} {f:Addr} {a:Value} {B:Around} {outer:List Env} {s:Shared} {H:Hp} {E:XK},dD k (bA (aY P w) P w K mg base Nm x (aJ st) f a B outer s H E).A->
   Raises (bA (aY P w) P w K mg base Nm x (aJ st) f a B outer s H E) (EL mg N RE)->Passes (aY P w) (bA (aY P w) P w K mg base Nm x (aJ st) f a B outer s H E) (EL mg N RE)->
   (bA (aY P w) P w K mg base Nm x (aJ st) f a B outer s H E).A.units+64<cLine->Nm.Nodup->
   ∃m,dB (bA (aY P w) P w K mg base Nm x (aJ st) f a B outer s H E) (fP st) (bB mg N m)/\∀ds A R,S ds A R RE->ds.length=n->m {nx:=λ_ A'=>R .ai A',rt:=R} (jF (Nm.length - n) ds) A)(d:ps.length=n:=by rfl)(e:ps.length<=Nm.length:=by decide):aD P w K mg base (k+1) x ps (aB mg n S):=
 jv T Sc d e λN RE f a B outer s H E c g i ds A R h hl=>by
  obtain⟨m,h1,h2⟩:=b c g i c.units Sc.nd;exact⟨m,h1,h2 ds A R h hl⟩
@[irreducible] def tS(r:Nat)(i:Int)(A:Ar)(R:DK):Prop:=match A[r]? with
 |some (.lst xs)=>∃(k:Nat) (y:D),i=(k:Int)/\k<1000000/\xs[k]?=some y/\R y (A.set r (.lst (xs.eraseIdx k)))
 |_=>False
def Dw:iR:=λx vs A R=>match x,vs with
 |.ref r,[.int i]=>tS r i A R
 |_,_=>False
theorem NI{A:Ar}{r k:Nat}{i:Int}{xs:List D}{y:D}{R:DK}(h:A[r]?=some (.lst xs))(hi:i=(k:Int))(a:k<1000000)(b:xs[k]?=some y)(q:R y (A.set r (.lst (xs.eraseIdx k)))):tS r i A R:=by
 unfold tS;rw[h];exact⟨k,y,hi,a,b,q⟩
theorem aj.erase{mg:aq}{ι:Io}{H:Hp}{n:Nat}{ds:List D}{a:List V}(h:aj mg ι n H ds a)(k:Nat):aj mg ι n H (ds.eraseIdx k) (a.eraseIdx k):=by
 rw[uM,uM];exact(h.take k).app (h.drop (k+1))
theorem HX{mg:aq}{K:Frag}:kE mg K "list" DS Dw:=by
 intro x ds A ι H u n R Q ra d rs h k;unfold Dw at h;split at h
 .obtain⟨_,rfl⟩:=d
  obtain⟨v,_,rfl,f,rfl⟩:=rs;cases f;unfold tS at h;split at h
  .rename_i xs e
   obtain⟨j,y,rfl,p,g,q⟩:=h;obtain⟨ws,h1,a⟩:=ra.lst e;obtain⟨v,h2,i⟩:=aj.get a g;have l:=(bR.mp e).1;have r:=(bR.mp h2).1;have E:=ra.kR (o:=.lst (ws.eraseIdx j)) (c:=.lst (xs.eraseIdx j)) l;obtain⟨m,b⟩:=ra.put (c':=.lst (xs.eraseIdx j)) (o:=.lst (ws.eraseIdx j)) e h1 rfl ⟨_,ee,by simpa using aj.ext E _ _ (aj.erase a j)⟩;refine⟨_,ws,_,j,v,rfl,rfl,h1,by omega,by omega,?_,h2,k _ _ _ _ _ q b m (by simpa using RV.ext b _ _ i)⟩;rw[seqIndex_of (by omega) (by omega)];simp
  .exact h.elim
 .exact h.elim
end DP
namespace L2
section
variable{X:Cx}
def DH(K:Frag):V->List V->Hp->VK->Prop:=λx vs H Q=>∃(l:Addr) (ws:List V) (y:V) (xs:List PyData) (d:PyData),x=.ref l/\vs=[y]/\H l=some (.lst ws)/\Dp K H x (.list xs)/\Dp K H y d/\canLayAll0 xs=true/\d.canLay0=true/\min (depthAll xs) d.depth<=60/\Q (.int ((xs.countP λz=>PyData.eqv z d:Nat):Int)) H
theorem L7(w:X.A.units+64<cLine):oi X "list.count" (DH X.K):=by
 intro pins s σ H x B v C Q I a f h;obtain⟨l,ws,y,xs,d,rfl,rfl,g,i,j,b,k,hd,q⟩:=h;obtain⟨u,rfl,m⟩:=f.one;obtain⟨as,ra⟩:=Dp.reads I _ _ v i a;obtain⟨bs,o⟩:=Dp.reads I d y u j m;cases a;obtain⟨z,its,n,r,hl,e⟩:=I.k9 g;cases ra with
 |list h1 h2 p c=>
  rw[e] at h1;cases h1;cases p;refine ku F.slot_list_count ⟨_,e,rfl⟩ F.entry_list_count (F.args_list_count_2 _ _) (PySem.SeqAt.list_countAt l its.toArray n _ _ u (λy=>PyData.eqv (PySem.SeqAt.readOf s.heap y) d)) ⟨e,PySem.SeqAt.items_eqAt c o b k ?_,?_⟩
  .omega
  .have t:its.toArray.toList.countP (λy=>PyData.eqv (PySem.SeqAt.readOf s.heap y) d)=xs.countP λz=>PyData.eqv z d:=by
    rw[<-PySem.SeqAt.readsAll_map xs _ _ b c,List.countP_map];rfl
   rw[t];exact⟨.int _,H,I.tok _,⟨_,rfl⟩,q⟩
end
end L2
namespace DP
open L2
@[irreducible] def qX(r:Nat)(y:D)(A:Ar)(R:DK):Prop:=match A[r]? with
 |some (.lst xs)=>gu xs=true/\ie y=true/\canLayAll0 (bX xs)=true/\(toQ y).canLay0=true/\depthAll (bX xs)<=60/\R (.int (((bX xs).countP λz=>PyData.eqv z (toQ y):Nat):Int)) A
 |_=>False
def AB:iR:=λx vs A R=>match x,vs with
 |.ref r,[y]=>qX r y A R
 |_,_=>False
theorem HK{mg:aq}{K:Frag}:kE mg K "list" (DH K) AB:=by
 intro x ds A ι H u i R Q ra a rs h k;unfold AB at h;split at h
 .obtain⟨_,rfl⟩:=a
  obtain⟨v,_,rfl,b,rfl⟩:=rs;unfold qX at h;split at h
  .rename_i xs e
   obtain⟨ws,h1,c⟩:=ra.lst e;obtain⟨d,p2,f,g,hd,q⟩:=h;exact⟨_,ws,v,_,_,rfl,rfl,h1,.lst (aS.of h1) (aj.dp xs ws d c),RV.dp _ v p2 b,f,g,by omega,k.here ra q rfl⟩
  .exact h.elim
 .exact h.elim
theorem Hh{A:Ar}{r:Nat}{xs:List D}{y:D}{R:DK}(h:A[r]?=some (.lst xs))(h1:gu xs=true)(h2:ie y=true)(a:canLayAll0 (bX xs)=true)(b:(toQ y).canLay0=true)(c:depthAll (bX xs)<=60)(q:R (.int (((bX xs).countP λz=>PyData.eqv z (toQ y):Nat):Int)) A):qX r y A R:=by
 unfold qX;rw[h];exact⟨h1,h2,a,b,c,q⟩
@[irreducible] def pJ(a b:Nat)(A:Ar)(R:DK):Prop:=match A[a]?,A[b]? with
 |some (.lst xs),some (.lst ys)=>R (.ref A.length) (A++[.lst ((xs.zip ys).map λp=>.tup [p.1,p.2])])
 |_,_=>False
def HB(n:dg):aM:=λτ A R=>n τ A λvs A1=>match vs with
 |[.ref a,.ref b]=>pJ a b A1 R
 |_=>False
theorem LS{A:Ar}{a b:Nat}{xs ys:List D}{R:DK}(h1:A[a]?=some (.lst xs))(h2:A[b]?=some (.lst ys))(q:R (.ref A.length) (A++[.lst ((xs.zip ys).map λp=>.tup [p.1,p.2])])):pJ a b A R:=by
 unfold pJ;rw[h1,h2];exact q
theorem Ib{X:Cx}{N:En}{a b:Expr}{n:dg}{Y p2 h f:Pos}(C:X.mg "list"=none)(D:X.mg "zip"=none)(hc:X.calm=true)(Z:PA X [a,b] (fD X.mg N n))(F:Gl X "list":=by rfl)(G:Gl X "zip":=by rfl)
  (hs:starEach [a,b] X.env=[(false,eval a X.env),(false,eval b X.env)]:=by rfl)(I:starEach [b] X.env=[(false,eval b X.env)]:=by rfl)
  (hz:starEach [.Call (.Name "zip" p2) [a,b] [] f] X.env=[(false,eval (.Call (.Name "zip" p2) [a,b] [] f) X.env)]:=by rfl):
  PE X (.Call (.Name "list" Y) [.Call (.Name "zip" p2) [a,b] [] f] [] h) (up X.mg N (HB n)):=
 dZ (Nd F C jk G D (by decide+kernel) hc Z hs I hz) λσ H Q q=>by
  obtain⟨A,ι,τ,R,S,q,k⟩:=q
  refine⟨A,ι,τ,_,S,q,λvs A1 R1 H1 us g e1 v w=> ?_⟩
  match vs,g,w with
  |[.ref x,.ref y],g,w=>
   obtain⟨_,_,rfl,⟨_,rfl⟩,_,_,rfl,⟨_,rfl⟩,rfl⟩:=w
   have g:pJ x y A1 R:=g
   unfold pJ at g
   split at g
   .rename_i ds es e2 e3
    obtain⟨xs,h1,U⟩:=v.lst e2
    obtain⟨ys,h2,V⟩:=v.lst e3
    refine⟨_,_,xs,ys,rfl,aS.of h1,aS.of h2,λl H' ps sm hl W j m=> ?_⟩
    have o:jq H1 (λb=>if b=l then none else H' b):=λb u z=>by
     have:b≠l:=λe=>by rw[e,hl] at z;cases z
     show(if b=l then none else H' b)=some u
     rw[ay this]
     exact sm b u z
    have eH:H'=upd (λb=>if b=l then none else H' b) l (.lst ps):=by
     funext b
     by_cases z:b=l
     .rw[z,ee,W]
     .rw[aV z,ay z]
    have E:=v.IU o
    rw[eH]
    refine jf (k.from (e1.trans E)) (v.fix E o) (aj.of_get ?_ λi d p hd J=> ?_) g (by show(if l=l then none else H' l)=none;rw[aA rfl])
    .rw[j,aR,List.length_zip,aj.length U,aj.length V]
    .obtain⟨t,K,B,rfl,hx,hy,L⟩:=m i p J
     rw[bH] at hd
     cases c:(ds.zip es)[i]? with
     |none=>rw[c] at hd;cases hd
     |some pr=>
      rw[c] at hd
      cases hd
      have M:ds[i]? =some pr.1:=by
       rw[List.getElem?_zip_eq_some] at c
       exact c.1
      have hd2:es[i]? =some pr.2:=by
       rw[List.getElem?_zip_eq_some] at c
       exact c.2
      obtain⟨w,r,O⟩:=aj.get U M
      obtain⟨v2,s,P⟩:=aj.get V hd2
      rw[hx] at r
      rw[hy] at s
      cases r
      cases s
      have T:(if t=l then none else H' t)=some (.tup [K,B]):=by
       rw[ay (λz=>by rw[z,W] at L;cases L)]
       exact L
      exact⟨t,[K,B],rfl,T,K,[B],rfl,RV.ext E _ _ O,B,[],rfl,RV.ext E _ _ P,rfl⟩
   .exact g.elim
end DP
namespace L2
section
variable{X:Cx}{e se:Expr}{te ts:TE}{p2 pos:Pos}
def Qp(K:Frag)(te ts:TE):TE:=λσ H Q=>te σ H λx H1=>yK ts σ H1 λo H2=>∃a xs,x=.ref a/\o=some (-1)/\aS K H2 a xs/\∀p,H2 p=none->Q (.ref p) (upd H2 p (.lst xs.reverse))
theorem Nj(j:PE X e te)(k:PO X (some se) (yK ts)):PE X (.Subscript e (.Slice none none (some se) p2) pos) (Qp X.K te ts):=by
 intro pins s σ H Q I h;refine Subscript_ (aK (j pins s σ H _ I h) λv l ⟨x,H1,m,n,p⟩=>?_);refine wpAny_Slice ?_;rw[evalPart_none];refine aX (aX (aK (k pins l σ H1 _ m p) λf c ⟨o,H2,t,u,y⟩=>?_));obtain⟨a,xs,rfl,rfl,z,q⟩:=y;cases n;have d:Inv X pins σ H2 {c with heap:=c.heap.push {cls:=.type "slice",data:=.fields #[Value.none,Value.none,f]}}:=t.kept (t':=c.toks) λb B q=>bP _ q;obtain⟨its,r,g,hz⟩:=d.list z;have i:=r.length;show wpAny (model X.prog X.w) X.A (subscriptTail e (.Slice none none (some se) p2) (.ref a) (.ref c.heap.objs.size)) (EP X pins σ Q) X.xe {c with heap:=c.heap.push {cls:=.type "slice",data:=.fields #[Value.none,Value.none,f]}};refine tail_any (ops:=[.ref a,.ref c.heap.objs.size]) g.isList.typeIs slot_list_getitem.lookup ?_ (by with_unfolding_all rfl);refine wpAny_getItem_list_slice g.isList (Heap.IsSliceOf.new ..) .none .none u (by decide) ?_ (by rw[cA]<;>omega);rw[PySem.W.krv_pick];refine⟨.ref _,_,d.laid (t':=c.toks) (o:=.lst xs.reverse) (λb B q=>bP _ q) (aI _) ?_,rfl,q _ (d.hok.fresh (aI _))⟩;exact⟨by rw[zd];exact hz,_,0,Vals.reverse r,eT _ rfl⟩
end
end L2
namespace DP
open L2
@[irreducible] def pX(r:Nat)(A:Ar)(R:DK):Prop:=∃xs,A[r]?=some (.lst xs)/\R (.ref A.length) (A++[.lst xs.reverse])
def HG(m s:aM):aM:=λτ A R=>m τ A λx A1=>s τ A1 λy A2=>match x,y with
 |.ref r,.int i=>i= -1/\pX r A2 R
 |_,_=>False
theorem Ot{A:Ar}{r:Nat}{xs:List D}{R:DK}(h:A[r]?=some (.lst xs))(k:R (.ref A.length) (A++[.lst xs.reverse])):pX r A R:=by
 unfold pX;exact⟨xs,h,k⟩
theorem Ig{X:Cx}{N:En}{e se:Expr}{m s:aM}{p2 pos:Pos}(h:PE X e (up X.mg N m))(j:PE X se (up X.mg N s)):PE X (.Subscript e (.Slice none none (some se) p2) pos) (up X.mg N (HG m s)):=
 dZ (Nj h (Du j)) λσ H Q q=>by
  obtain⟨A,ι,τ,R,S,q,k⟩:=q;refine⟨A,ι,τ,_,S,q,λx l b H1 u n d o c=>?_⟩;refine⟨l,b,τ,_,S.next d o,n,λy t v H2 C a f g v2=>?_⟩;match x,y,a,c,v2 with
  |.ref r,.int i,a,c,v2=>
   cases v2;obtain⟨hi,a⟩:i= -1/\pX r t R:=a;subst hi;have w:=RV.ext f _ _ c;obtain⟨_,rfl⟩:=w;unfold pX at a;obtain⟨xs,e,a⟩:=a;obtain⟨z,h1,h2⟩:=g.lst e;exact⟨-1,rfl,_,z,rfl,rfl,aS.of h1,λp B=>jf (k.from (d.trans f)) g (aj.reverse h2) a B⟩
end DP
variable{P:Program}{w:World}{K:Frag}{mg:aq}{base:Heap}
namespace My
open L2 DP
def top(i:Nat):Stmt:=PySem.Challenge.pw_hangstill_k08_whole_rings.main.body.getD i (.Pass ⟨0,0,0,0⟩)
abbrev yw:Stmt:=top 8
abbrev lH:List Str:=["thing","first","last"]
theorem E2:bg ["thing","first","last"] lH (aJ yw):=bL
abbrev EI:Stmt:=top 9
abbrev tG:List Str:=["thing"]
theorem O_:bg ["thing"] tG (aJ EI):=bL
abbrev EH:Stmt:=top 10
abbrev tu:List Str:=["thing","rods"]
theorem O9:bg ["thing","rods"] tu (aJ EH):=bL
abbrev EG:Stmt:=top 11
abbrev pN:List Str:=["thing"]
theorem O8:bg ["thing"] pN (aJ EG):=bL
abbrev Ey:Stmt:=top 12
abbrev sX:List Str:=["thing"]
theorem O1:bg ["thing"] sX (aJ Ey):=bL
abbrev EC:Stmt:=top 14
abbrev s8:List Str:=["one","other"]
theorem O5:bg ["one","other","rest"] s8 (aJ EC):=bL
abbrev ES:Stmt:=top 15
abbrev pP:List Str:=["top","bottom"]
theorem Pg:bg ["top","bottom","divisor"] pP (aJ ES):=bL
abbrev EO:Stmt:=top 16
abbrev pO:List Str:=["one","other"]
theorem Pe:bg ["one","other"] pO (aJ EO):=bL
abbrev ER:Stmt:=top 17
abbrev tN:List Str:=["one","other"]
theorem Pf:bg ["one","other"] tN (aJ ER):=bL
abbrev EV:Stmt:=top 19
abbrev tP:List Str:=["mobile","way","share"]
theorem E4:bg ["mobile","way","share","both","left","right"] tP (aJ EV):=bL
abbrev EM:Stmt:=top 20
abbrev tL:List Str:=["mobile"]
theorem Pc:bg ["mobile"] tL (aJ EM):=bL
abbrev EU:Stmt:=top 21
abbrev pQ:List Str:=["mobile"]
theorem Pj:bg ["mobile"] pQ (aJ EU):=bL
abbrev Ew:Stmt:=top 22
abbrev sV:List Str:=["mobile"]
theorem OZ:bg ["mobile","first","way","name","share"] sV (aJ Ew):=bL
abbrev Ex:Stmt:=top 25
abbrev sW:List Str:=["thing"]
theorem O0:bg ["thing","mobile"] sW (aJ Ex):=bL
abbrev EE:Stmt:=top 26
abbrev pM:List Str:=["hall"]
theorem O6:bg ["hall"] pM (aJ EE):=bL
abbrev EW:Stmt:=top 27
abbrev tQ:List Str:=["by_place","name"]
theorem Pk:bg ["by_place","name","steps","place","table"] tQ (aJ EW):=bL
abbrev EN:Stmt:=top 28
abbrev tM:List Str:=["by_place","start"]
theorem Pd:bg ["by_place","start","paths","reached","at","step"] tM (aJ EN):=bL
abbrev ED:Stmt:=top 29
abbrev s9:List Str:=["by_place"]
theorem E1:bg ["by_place","told","seen","table","name","paths"] s9 (aJ ED):=bL
abbrev Eu:Stmt:=top 30
abbrev sU:List Str:=["steps"]
theorem OY:bg ["steps"] sU (aJ Eu):=bL
abbrev EA:Stmt:=top 31
abbrev pL:List Str:=["by_place","steps"]
theorem O3:bg ["by_place","steps","ratio","place","one","other"] pL (aJ EA):=bL
abbrev Ez:Stmt:=top 32
abbrev sY:List Str:=["by_place"]
theorem O2:bg ["by_place","steps","place","table","first"] sY (aJ Ez):=bL
abbrev EB:Stmt:=top 33
abbrev sZ:List Str:=["by_place"]
theorem O4:bg ["by_place","paths","group","step","steps"] sZ (aJ EB):=bL
abbrev EK:Stmt:=top 34
abbrev tK:List Str:=["by_place","thing"]
theorem Pb:bg ["by_place","thing"] tK (aJ EK):=bL
abbrev EF:Stmt:=top 35
abbrev s_:List Str:=["steps"]
theorem O7:bg ["steps"] s_ (aJ EF):=bL
abbrev ET:Stmt:=top 36
abbrev tO:List Str:=["hall"]
theorem Ph:bg ["hall"] tO (aJ ET):=bL
abbrev EJ:Stmt:=top 37
abbrev tH:List Str:=["hall","thing"]
theorem Pa:bg ["hall","thing","by_place"] tH (aJ EJ):=bL
abbrev Eg:Stmt:=top 39
abbrev sJ:List Str:=["_law_script","_law_k"]
theorem OO:bg ["_law_script","_law_k"] sJ (aJ Eg):=bL
abbrev Eo:Stmt:=top 40
abbrev sP:List Str:=["_law_script","_law_k","_law_many"]
theorem OV:bg ["_law_script","_law_k","_law_many","_law_drawn"] sP (aJ Eo):=bL
abbrev Eh:Stmt:=top 41
abbrev lE:List Str:=["_law_script","_law_town","_law_many"]
theorem OP:bg ["_law_script","_law_town","_law_many"] lE (aJ Eh):=bL
abbrev Er:Stmt:=top 42
abbrev nu:List Str:=["_law_script","_law_town","_law_some"]
theorem OW:bg ["_law_script","_law_town","_law_some"] nu (aJ Er):=bL
abbrev Ej:Stmt:=top 43
abbrev sM:List Str:=["_law_script","_law_town"]
theorem OR:bg ["_law_script","_law_town","_law_pool","_law_made","_law_k","_law_left","_law_deep"] sM (aJ Ej):=bL
abbrev Ep:Stmt:=top 44
abbrev sQ:List Str:=["_law_script","_law_town","_law_left","_law_deep"]
theorem EX:bg ["_law_script","_law_town","_law_left","_law_deep","_law_arms","_law_one"] sQ (aJ Ep):=bL
abbrev Em:Stmt:=top 45
abbrev sO:List Str:=["_law_mobile","_law_way"]
theorem OU:bg ["_law_mobile","_law_way"] sO (aJ Em):=bL
abbrev El:Stmt:=top 46
abbrev lG:List Str:=["_law_up","_law_down"]
theorem OT:bg ["_law_up","_law_down","_law_one","_law_other"] lG (aJ El):=bL
abbrev Et:Stmt:=top 47
abbrev sS:List Str:=["_law_mobile","_law_up","_law_down"]
theorem EY:bg ["_law_mobile","_law_up","_law_down","_law_both","_law_one"] sS (aJ Et):=bL
abbrev Ef:Stmt:=top 48
abbrev lD:List Str:=["_law_hall_here"]
theorem ON:bg ["_law_hall_here","_law_made","_law_mobile","_law_names"] lD (aJ Ef):=bL
abbrev Ek:Stmt:=top 49
abbrev sN:List Str:=["_law_hall_here","_law_start"]
theorem OS:bg ["_law_hall_here","_law_start","_law_books_here","_law_found","_law_turn","_law_book","_law_one","_law_other","_law_up","_law_down","_law_more"] sN (aJ Ek):=bL
abbrev Es:Stmt:=top 50
abbrev sR:List Str:=["_law_one","_law_other"]
theorem OX:bg ["_law_one","_law_other"] sR (aJ Es):=bL
abbrev Ed:Stmt:=top 51
abbrev sI:List Str:=["_law_hall_here"]
theorem OM:bg ["_law_hall_here","_law_books_here","_law_first","_law_found","_law_book","_law_some"] sI (aJ Ed):=bL
abbrev Ei:Stmt:=top 52
abbrev sL:List Str:=["_law_hall_here","_law_thing"]
theorem OQ:bg ["_law_hall_here","_law_thing","_law_heavy_here","_law_books_here","_law_place","_law_one","_law_other","_law_book","_law_rings"] sL (aJ Ei):=bL
abbrev d7:Stmt:=top 53
abbrev yb:List Str:=["_law_script"]
theorem E3:bg ["_law_script","_law_town","_law_hall_here","_law_thing","_law_books_here","_law_here","_law_k","_law_place","_law_other","_law_at","_law_step","_law_news","_law_about","_law_found","_law_bad"] yb (aJ d7):=bL
open MA
theorem Jp(T:TopD K mg "is_number" yw lH)(d:mg "isinstance"=none)(f:mg "bool"=none)(g:mg "int"=none):aD P w K mg base 1 "is_number" lH (aB mg 3 zU):=by
 refine bW T E2 λj k l m nd=>⟨_,(aE (cz (PW.pt (fy (eE (gD xB d f boot_bool (vr 0))) (f_ (e_ (eE (gD Cv d g boot_int (vr 0))))))) (aH (aT fO)) cE)
  (aH (aT (wh (vr 1) (vr 0) (vr 2))))),λds A R h hl=>?_⟩
 obtain⟨v,⟨i,a,b,rfl,rfl⟩,q⟩:=h;refine cD (λc=>?_) (λc=>?_)
 .have e:(decide (a<=i)&&decide (i<=b))=decide (i<=b):=by simp[c]
  rw[e] at q;exact q _ Gr.refl
 .have e:(decide (a<=i)&&decide (i<=b))=false:=by simp[c]
  rw[e] at q;exact q _ Gr.refl
theorem Dd{c d:Nat}:([c]:List Nat)<[d]↔c<d:=by simp[List.cons_lt_cons_iff]
theorem Po:("a":Str).cps.toList=[97]:=by decide+kernel
theorem Pp:("z":Str).cps.toList=[122]:=by decide+kernel
theorem Jo(T:TopD K mg "is_name" EI tG)(b:mg "isinstance"=none)(d:mg "str"=none)(g:mg "len"=none)(i:mg "all"=none){t:Tok}(a:mg "LONGEST_NAME"=some (.int 3 t)):aD P w K mg base 1 "is_name" tG (aB mg 1 zR):=by
 refine bW T O_ λr s k u nd=>⟨_,(aE (cz (PW.pt (fy (e_ (eE (gD rX b d boot_str (vr 0)))) (f_ (e_ (Fj ao (dW eY eu g fk (aa (vr 0) ah)) (oV a)))))) (aH (aT fO)) cE)
  (aH (aT (dW (vK rfl) vR i boot_all (aa (i8 none (own:=["letter"]) (frees:=[]) (ix:=[]) rfl (Im (vr 0)) (λc=>(pG 0 (show(["letter"]:List Str).Nodup by decide+kernel))) (λc=>(wh bG (vr 0) bG))) ah))))),λds A R h hl=>?_⟩
 obtain⟨v,⟨n,rfl,j,rfl⟩,q⟩:=h;have hz:n.length<=sizeLine:=dU j.hi (by decide);have h1:=j.lo;have y:=j.hi;refine⟨hz,cD (λ_=>?_) (λc=>absurd (show(1:Int)<=(n.length:Nat) by omega) c)⟩;refine cN (λc=>absurd (show((n.length:Nat):Int)<=3 by omega) c) (λ_=>?_);refine i7 (f:=λ_=>.bl true) trivial _ _ (λx k=>⟨[x],rfl,λQ l=>?_⟩) ?_ ?_
 .obtain⟨c,hc,rfl⟩:=br.mp k
  obtain⟨z,B⟩:=j.az c hc;have m:¬((⟨#[c]⟩:Str).cps.toList<("a":Str).cps.toList):=by
   rw[Po];intro h;have:=Dd.mp h;omega
  have o:¬(("z":Str).cps.toList<(⟨#[c]⟩:Str).cps.toList):=by
   rw[Pp];intro h;have:=Dd.mp h;omega
  refine cN (λ_=>?_) (λh=>absurd h m);have p:(!decide (("z":Str).cps.toList<(⟨#[c]⟩:Str).cps.toList))=true:=by rw[eL o];rfl
  show Q (.bl (!decide (("z":Str).cps.toList<(⟨#[c]⟩:Str).cps.toList))) A;rw[p];exact l
 .have:(jE n).length=n.length:=by simp[jE,Str.length]
  show 0+(jE n).length<=sizeLine;omega
 .refine qP (bs:=(jE n).map λ_=>true) aG (qT _ _) ?_
  have e:((jE n).map λ_=>true).all id=true:=by simp
  rw[e];exact q _ Gr.push
theorem Jk(T:TopD K mg "is_mobile_within" EH tu)(i:mg "isinstance"=none)(x:mg "str"=none)(u:mg "tuple"=none)(k:mg "len"=none){t:Tok}(g:mg "LONGEST_ARM"=some (.int 9 t))
  (o:aD P w K mg base 1 "is_name" tG (aB mg 1 zR))(j:aD P w K mg base 1 "is_number" lH (aB mg 3 zU)):∀d,aD P w K mg base (d+1) "is_mobile_within" tu (aB mg 2 (zL d)):=by
 intro d;induction d with
 |zero=>
  refine o4 T λds A R RE h=>?_;obtain⟨v,⟨m,_,_,h,_⟩,_⟩:=h;omega
 |succ d e=>
  refine jv T O9 rfl (by decide) λN RE f I B outer s H E y Z z ds A R h hl=>?_;have p:=y.units;refine⟨_,(aE (cz (PW.pt (fy (e_ (eE (gD kit_tuple i u boot_tuple (vr 0)))) (fy (jh p (dW eY eu k fk (aa (vr 0) ah)) ao) (f_ (e_ (eE (gD rX i x boot_str (dX p (vr 0) ao)))))))) (aH (aT fO)) cE)
  (aE (cz (jh p (dX p (vr 0) ao) bG) (aH (aT (mL (rA p (dW eY eu k fk (aa (vr 0) ah)) ao) (oW (dL o y z (aa (dX p (vr 0) ao) ah)))))) cE)
  (aE (cz (PW.pt (fy (j_ p (dX p (vr 0) ao) bG) (fy (j_ p (dW eY eu k fk (aa (vr 0) ah)) ao) (f_ (jh p (vr 1) ao))))) (aH (aT fO)) cE)
  (aE (cz (PW.pt (fy (e_ (eE (dL j y z (aa (dX p (vr 0) ao) (aa ao (aa (oV g) ah)))))) (f_ (e_ (eE (dL j y z (aa (dX p (vr 0) ao) (aa ao (aa (oV g) ah))))))))) (aH (aT fO)) cE)
  (aH (aT (mL (dL e y z (aa (dX p (vr 0) ao) (aa (mQ (vr 1) ao) ah))) (oW (dL e y z (aa (dX p (vr 0) ao) (aa (mQ (vr 1) ao) ah))))))))))),?_⟩
  obtain⟨v,⟨m,rfl,C,hd,rfl⟩,q⟩:=h;cases m with
  |wt n=>
   exact⟨rfl,_,⟨n,rfl,C.nm n (by simp[bY.names]),rfl⟩,q⟩
  |dF l r a b=>
   obtain⟨⟨h1,h2,J,L,M,O⟩,F⟩:=C;have Q:max a.deep b.deep+1<d+1:=hd;have G:((d+1:Nat):Int) - 1 - 1=(d:Int) - 1:=by omega
   have S:(decide (1<=l)&&decide (l<=9))=true:=by simp[h1,h2]
   have U:(decide (1<=r)&&decide (r<=9))=true:=by simp[J,L]
   refine cD (λc=>absurd c (by omega)) (λ_=>?_);refine⟨rfl,_,⟨l,1,9,rfl,rfl⟩,λA1 V=>?_⟩;rw[S];refine⟨rfl,_,⟨r,1,9,rfl,rfl⟩,λA2 W=>?_⟩;rw[U];refine⟨rfl,_,⟨a,show [enc a,D.int (((d+1:Nat):Int) - 1 - 1)]=_ by rw[G],⟨M,λn h=>F n (by simp[bY.names,h])⟩,by omega,rfl⟩,λA3 X=>?_⟩;refine⟨rfl,_,⟨b,show [enc b,D.int (((d+1:Nat):Int) - 1 - 1)]=_ by rw[G],⟨O,λn h=>F n (by simp[bY.names,h])⟩,by omega,rfl⟩,λA4 Y=>?_⟩;exact q _ (((V.trans W).trans X).trans Y)
theorem Jm(T:TopD K mg "is_mobile" EG pN){t:Tok}(b:mg "MOST_RODS"=some (.int 5 t))(a:aD P w K mg base 7 "is_mobile_within" tu (aB mg 2 (zL 6))):aD P w K mg base 8 "is_mobile" pN (aB mg 1 vp):=by
 refine bW T O8 λc f d g nd=>⟨_,(aH (aT (dL a c d (aa (vr 0) (aa (oV b) ah))))),λds A R h hl=>?_⟩;obtain⟨v,⟨m,rfl,e,hd,rfl⟩,q⟩:=h;exact⟨rfl,_,⟨m,rfl,e,by omega,rfl⟩,q⟩
theorem I9(T:TopD K mg "check_mobile" Ey sX){a:Addr}(c:mg "NoMobile"=some (.ref a))(d:excIn K a uA "ValueError.__new__"=true)(b:aD P w K mg base 8 "is_mobile" pN (aB mg 1 vp)):aD P w K mg base 9 "check_mobile" sX (aB mg 1 zD):=by
 refine bW T O1 λe f g k nd=>⟨_,(aH (cz (e_ (eE (dL b e g (aa (vr 0) ah)))) (aH (v_ f rfl c d (aa bG ah))) cE)),λds A R h hl=>?_⟩;obtain⟨v,⟨m,rfl,i,hd,rfl⟩,q⟩:=h;exact⟨rfl,_,⟨m,rfl,i,hd,rfl⟩,λl j=>q _ j⟩
theorem Je(T:TopD K mg "greatest_divisor" EC s8):aD P w K mg base 1 "greatest_divisor" s8 (aB mg 2 zG):=by
 refine bW T O5 λp s t u nd=>⟨_,(aE (wc dO (Fi (vr 1) ao) (aE (dS 2 nd (mO (vr 0) (vr 1)))
  (aE (dS 0 nd (vr 1))
  (aH (dS 1 nd (vr 2))))))
  (aH (aT (vr 0)))),λds A R h hl=>?_⟩
 obtain⟨v,⟨a,b,rfl,i,j,rfl⟩,q⟩:=h;refine⟨λn τ A'=>A'=A/\∃(x y:Int) (r:Option D),τ=[some (.int x),some (.int y),r]/\0<=x/\0<=y/\Int.gcd x y=Int.gcd a b/\n=y.toNat,⟨_,rfl,a,b,none,rfl,i,j,rfl,rfl⟩,?_⟩;rintro n τ A' ⟨rfl,x,y,r,rfl,h0,h1,g,rfl⟩;refine cD (λc=>?_) (λc=>?_)
 .refine⟨λτ k=>k=A'/\∃(f d:Int) (r:Option D),τ=[some (.int f),some (.int d),r]/\0<=f/\0<=d/\Int.gcd f d=Int.gcd a b/\d.toNat<y.toNat,λbI A' ⟨e,f,d,r',h1,h2,l,m,o⟩=>⟨_,o,e,f,d,r',h1,h2,l,m,rfl⟩,?_⟩
  have m0:=qu x (show y≠0 by omega);have z:=qt x (show 0<y by omega);exact⟨c,rfl,y,x%y,_,rfl,h1,m0,by rw[BQ h0 c];exact g,by omega⟩
 .have e:y=0:=by omega
  subst e;have:(x:Int)=(Int.gcd a b:Int):=by rw[<-g,Int.gcd_zero_right];omega
  show R (.int x) A';rw[this];exact q _ Gr.refl
theorem JD(T:TopD K mg "reduced" ES pP)(c:aD P w K mg base 1 "greatest_divisor" s8 (aB mg 2 zG)):aD P w K mg base 2 "reduced" pP (aB mg 2 qL):=by
 refine bW T Pg λf l g m nd=>⟨_,(aE (dS 2 nd (dL c f g (aa (vr 0) (aa (vr 1) ah))))
  (aH (aT (cg (aa (ri (vr 0) (vr 2)) (aa (ri (vr 1) (vr 2)) ah)))))),λds A R h hl=>?_⟩
 obtain⟨v,⟨a,b,rfl,i,o,hz,rfl⟩,q⟩:=h;have d:0<(Int.gcd a b:Int):=by
  have:=Int.gcd_pos_of_ne_zero_left b (show a≠0 by omega);omega
 have hl:(Int.gcd a b:Int)<=a:=Int.le_of_dvd i (Int.gcd_dvd_left a b);have e:(Int.gcd a b:Int).natAbs.log2<9000:=by
  have h1:(Int.gcd a b:Int).natAbs<2 ^ 2000:=by omega
  have:=(Nat.log2_lt (n:=(Int.gcd a b:Int).natAbs) (k:=2000) (by omega)).mpr h1;omega
 refine⟨rfl,_,⟨a,b,rfl,by omega,by omega,rfl⟩,λp j=>?_⟩;exact⟨⟨d,e⟩,⟨d,e⟩,show 2<=sizeLine by decide,q _ j⟩
end My
namespace DP
open L2 MA
def fq(x:Rat):D:=.tup [.int (rf x).1,.int (rf x).2]
def ua(p:Str×Str×Rat):D:=.tup [.str p.1,.str p.2.1,fq p.2.2]
theorem tY{a b:Int}(c:0<b):rd a b=rf ((a:Rat)/(b:Rat)):=t_ c
def oB:Ct:=λds A R _=>∃a b c d:Int,ds=[.tup [.int a,.int b],.tup [.int c,.int d]]/\0<a/\0<b/\0<c/\0<d/\c<2 ^ 64/\d<2 ^ 64/\a*c<2 ^ 2000/\∀A',Gr A A'->R (fq (((a:Rat)/(b:Rat))*((c:Rat)/(d:Rat)))) A'
theorem mul_div{a b c d:Int}(e:0<b)(hd:0<d):((a*c:Int):Rat)/((b*d:Int):Rat)=((a:Rat)/(b:Rat))*((c:Rat)/(d:Rat)):=by
 have h1:=iY (ji e);have h2:=iY (ji hd);rw[jj,jj];grind
def zZ(d:Nat):Ct:=λds A R _=>∃m w x,ds=[enc m,.str w,fq x]/\m.arms/\m.deep<d/\d<=6/\w.length+d<=100/\0<x/\(rf x).1*18 ^ m.deep<=1000000000/\∀A' q,Gr A A'->A'[q]?=some (.lst ((bM m w x).map ua))->A.length<=q->R (.ref q) A'
def vt:Ct:=λds A R _=>∃m,ds=[enc m]/\Wf m/\m.deep<=5/\∀A' q,Gr A A'->A'[q]?=some (.lst ((bM m "" 1).map ua))->A.length<=q->R (.ref q) A'
theorem Ag{a:Int}(h:a<=1000000000000):a<2 ^ 2000:=nV h (nN (show(1000000000000:Int)<2 ^ 64 by decide) (by
 have:(2:Nat) ^ 64<=2 ^ 2000:=gy (by decide) (by decide);exact_mod_cast this))
end DP
namespace My
open L2 DP MA
theorem Jz(T:TopD K mg "product" EO pO)(e:aD P w K mg base 2 "reduced" pP (aB mg 2 qL)):aD P w K mg base 3 "product" pO (aB mg 2 oB):=by
 refine bW T Pe λj s k f nd=>⟨_,(aH (aT (dL e j k (aa (dY (dX f (vr 0) ao) (dX f (vr 1) ao)) (aa (dY (dX f (vr 0) ao) (dX f (vr 1) ao)) ah))))),λds A R h hl=>?_⟩;obtain⟨a,b,c,d,rfl,h1,h2,l,i,m,n,o,q⟩:=h;refine⟨.inr ⟨by omega,m⟩,.inr ⟨by omega,n⟩,rfl,_,⟨_,_,rfl,cJ h1 l,cJ h2 i,o,rfl⟩,λp r=>?_⟩;have g:=q p r;rw[<-mul_div h2 i] at g;unfold fq at g;rw[<-tY (cJ h2 i)] at g;exact g
theorem JB(T:TopD K mg "quotient" ER tN)(f:aD P w K mg base 2 "reduced" pP (aB mg 2 qL)):aD P w K mg base 3 "quotient" tN (aB mg 2 (λds A R E=>∃a b c d:Int,ds=[.tup [.int a,.int b],.tup [.int c,.int d]]/\oB [.tup [.int a,.int b],.tup [.int d,.int c]] A R E)):=by
 refine bW T Pf λk t l g nd=>⟨_,(aH (aT (dL f k l (aa (dY (dX g (vr 0) ao) (dX g (vr 1) ao)) (aa (dY (dX g (vr 0) ao) (dX g (vr 1) ao)) ah))))),λds A R h hl=>?_⟩;obtain⟨a,b,c,d,rfl,u,v,d',c',e,h1,h2,m,j,n,o,p,q⟩:=h;cases e;refine⟨.inr ⟨by omega,n⟩,.inr ⟨by omega,o⟩,rfl,_,⟨_,_,rfl,cJ h1 m,cJ h2 j,p,rfl⟩,λr s=>?_⟩;have i:=q r s;rw[<-mul_div h2 j] at i;unfold fq at i;rw[<-tY (cJ h2 j)] at i;exact i
theorem JI(T:TopD K mg "shares_below" EV tP)(e:aD P w K mg base 3 "product" pO (aB mg 2 oB)):∀d,aD P w K mg base (d+3) "shares_below" tP (aB mg 3 (zZ d)):=by
 intro d;induction d with
 |zero=>
  refine o4 T λds A R RE h=>?_;obtain⟨m,w,x,_,_,h,_⟩:=h;omega
 |succ d c=>
  refine jv T E4 rfl (by decide) λN RE f D B outer s H E j V k ds A R h hl=>?_;have g:=j.units;have nd:=E4.nd;refine⟨_,(aE (cz (jh g (dX g (vr 0) ao) bG) (aH (aT (bK (aa (cg (aa (vr 1) (aa (dX g (vr 0) ao) (aa (vr 2) ah)))) ah)))) cE)
  (aE (dS 3 nd (c8 (dX g (vr 0) ao) (dX g (vr 0) ao)))
  (aE (dS 4 nd (dL e j k (aa (vr 2) (aa (cg (aa (dX g (vr 0) ao) (aa (vr 3) ah))) ah))))
  (aE (dS 5 nd (dL e j k (aa (vr 2) (aa (cg (aa (dX g (vr 0) ao) (aa (vr 3) ah))) ah))))
  (aH (aT (c8 (dL c j k (aa (dX g (vr 0) ao) (aa (c8 (vr 1) bG) (aa (vr 4) ah)))) (dL c j k (aa (dX g (vr 0) ao) (aa (c8 (vr 1) bG) (aa (vr 5) ah))))))))))),?_⟩
  obtain⟨m,w,x,rfl,F,hd,W,X,i,o,q⟩:=h;have Y:(1000:Nat)<=sizeLine:=by decide
  cases m with
  |wt n=>exact⟨show 3<=sizeLine by decide,show 1<=sizeLine by decide,q _ _ Gr.push aG (aI _)⟩
  |dF l r a b=>
   have G:max a.deep b.deep+1<d+1:=hd;obtain⟨u,Z,v,r4,p,t⟩:=F;have ll:("l":Str).length=1:=by decide+kernel
   have lr:("r":Str).length=1:=by decide+kernel
   have al:∀x y:Str,(x++y).length=x.length+y.length:=λx y=>Array.size_append;have np:=cT i;have dp:=cP x;have o:(rf x).1*18 ^ (max a.deep b.deep+1)<=1000000000:=o;have n1:(rf (x*((r:Rat)/((l+r:Int):Rat)))).1<=(rf x).1*18:=fj (num_mul (by omega) (nL (by omega) (by omega))) (qp (by omega) (by omega));have n2:(rf (x*((l:Rat)/((l+r:Int):Rat)))).1<=(rf x).1*18:=fj (num_mul (by omega) (nL (by omega) (by omega))) (qp (by omega) (by omega));obtain⟨k1,_,k0⟩:=Bc o n1 np;obtain⟨_,k2,_⟩:=Bc o n2 np;have I:0<x*((r:Rat)/((l+r:Int):Rat)):=bY.step_pos u v i;have p2:0<x*((l:Rat)/((l+r:Int):Rat)):=by
    have:=bY.step_pos (l:=r) (r:=l) v u i;rwa [add_comm r l] at this
   have m1:(rf x).1*r<=1000000000*18:=dc k0 (by omega) (by omega) (by omega);have m2:(rf x).1*l<=1000000000*18:=dc k0 (by omega) (by omega) (by omega);have J:(18:Int)<2 ^ 64:=by decide
   refine⟨show 2<=sizeLine by decide,rfl,_,_,_,_,rfl,np,dp,by omega,by omega,by omega,by omega,Ag (by omega),λA1 L=>?_⟩;refine⟨show 2<=sizeLine by decide,rfl,_,_,_,_,rfl,np,dp,by omega,by omega,by omega,by omega,Ag (by omega),λA2 M=>?_⟩;rw[gJ];refine⟨by omega,rfl,a,_,_,rfl,p,by omega,by omega,by rw[al];omega,I,k1,λA3 q3 O Q _=>?_⟩;refine⟨by omega,rfl,b,_,_,rfl,t,by omega,by omega,by rw[al];omega,p2,k2,λS q4 z U _=>?_⟩;have z1:=nh (m:=a) (by omega);have z2:=nh (m:=b) (by omega);have C:Gr A S:=((L.trans M).trans O).trans z;refine iJ (z.get Q) U (by simp[lJ];omega) (q _ _ (C.trans Gr.push) ?_ C.len);rw[aG];simp[bM]
theorem JH(T:TopD K mg "shares" EU pQ)(a:aD P w K mg base 9 "check_mobile" sX (aB mg 1 zD))(b:aD P w K mg base 9 "shares_below" tP (aB mg 3 (zZ 6))):aD P w K mg base 10 "shares" pQ (aB mg 1 vt):=by
 refine bW T Pj λc j d k nd=>⟨_,(aE (gm (dL a c d (aa (vr 0) ah)))
  (aH (aT (dL b c d (aa (vr 0) (aa bG (aa (cg (aa ao (aa ao ah))) ah))))))),λds A R h hl=>?_⟩
 obtain⟨m,rfl,f,hd,q⟩:=h;refine⟨rfl,_,⟨m,rfl,f,hd,rfl⟩,λl g=>?_⟩;have n:(D.tup [.int 1,.int 1])=fq 1:=rfl;refine⟨show 2<=sizeLine by decide,rfl,m,_,1,rfl,f.arms,by omega,by omega,by decide+kernel,by decide,?_,λo r i h2 l2=>q _ _ (g.trans i) h2 (dU g.len l2)⟩;have p:=nA hd;have e:(18:Int) ^ 5=1889568:=by decide
 rw[e] at p;show(1:Int)*18 ^ m.deep<=1000000000;omega
end My
namespace DP
open L2 MA
def bD:Option (Str×Str)->D
 |some p=>.tup [.str p.1,.str p.2]
 |none=>.ai
def zz:Ct:=λds A R _=>∃m,ds=[enc m]/\Wf m/\m.deep<=5/\∀A',Gr A A'->R (bD (eo [] (bM m "" 1))) A'
theorem rG(k:Key)(v:D)(c:Key):∀kvs:List (Key×D),bf (cG kvs k v) c=if k=c then some v else bf kvs c:=by
 intro kvs;by_cases f:(kvs.any λb=>decide (b.1=k))=true
 .have e:cG kvs k v=kvs.map λb=>if b.1=k then (b.1,v) else b:=by
   unfold cG;rw[aA f]
  rw[e];clear e;induction kvs with
  |nil=>simp at f
  |cons p r i=>
   by_cases d:p.1=k
   .rw[cB,aA d]
    unfold bf;by_cases a:k=c
    .rw[aA a,aA (by rw[<-a];exact d)]
    .rw[ay a,ay (λz=>a (by rw[<-d];exact z))]
     rw[ay (λz=>a (by rw[<-d];exact z))];by_cases h:(r.any λb=>decide (b.1=k))=true
     .rw[i h,ay a]
     .have:r.map (λb=>if b.1=k then (b.1,v) else b)=r:=by
       rw[nW (g:=id)]
       .simp
       .intro q j
        rw[ay]
        .rfl
        .intro z
         exact h (nP.mpr ⟨q,j,cW z⟩)
      rw[this]
   .have h:(r.any λb=>decide (b.1=k))=true:=by simpa[d] using f
    rw[cB,ay d];unfold bf;by_cases a:p.1=c
    .rw[aA a,ay (λz=>d (by rw[z];exact a)),aA a]
    .rw[ay a,ay a]
     exact i h
 .have e:cG kvs k v=kvs++[(k,v)]:=by
   unfold cG;rw[ay f]
  rw[e];clear e;induction kvs with
  |nil=>simp[bf]
  |cons p r i=>
   have d:p.1≠k:=λz=>f (by simp[z]);have h:¬(r.any λb=>decide (b.1=k))=true:=λz=>f (by simp[z]);show(if p.1=c then some p.2 else bf (r++[(k,v)]) c)=if k=c then some v else (if p.1=c then some p.2 else bf r c)
   by_cases a:p.1=c
   .rw[aA a,ay (λz=>d (by rw[z];exact a)),aA a]
   .rw[ay a,ay a]
    exact i h
theorem Oa(kvs:List (Key×D))(k:Key)(v:D):(cG kvs k v).length<=kvs.length+1:=by
 unfold cG;split<;>simp
theorem yh{A:Ar}{r:Nat}{kvs:List (Key×D)}{y v:D}{k:Key}{R:Ar->Prop}(h:A[r]?=some (.dct kvs))(a:fR y=some k)(hl:kvs.length<sizeLine)(q:R (A.set r (.dct (cG kvs k v)))):pV r y v A R:=by
 unfold pV;simp only[h,a];exact⟨hl,q⟩
theorem o5{A:Ar}{r:Nat}{c c':C}(h:A[r]?=some c):(A.set r c')[r]?=some c':=by
 rw[fu (bR.mp h).1]
theorem CA(x:Rat):(toQ (fq x)).canLay0=true:=by simp[fq,toQ,bX,canLay0,canLayAll0]
theorem Ij(x:Rat):(toQ (fq x)).depth<=64:=by simp[fq,toQ,bX,PyData.depth,depthAll]
theorem wo(x y:Rat):PyData.eqv (toQ (fq x)) (toQ (fq y))=decide (x=y):=by
 by_cases h:x=y
 .subst h
  simp[fq,toQ,bX,PyData.eqv,eqvAll]
 .rw[eL h]
  have:¬((rf x).1=(rf y).1/\(rf x).2=(rf y).2):=λz=>h (Ou (Prod.ext z.1 z.2));by_cases h1:(rf x).1=(rf y).1
  .have h2:¬(rf x).2=(rf y).2:=λz=>this ⟨h1,z⟩
   simp[fq,toQ,bX,PyData.eqv,eqvAll,h2]
  .simp[fq,toQ,bX,PyData.eqv,eqvAll,h1]
theorem sD{x y:Rat}{A:Ar}{R:DK}(k:R (.bl (!decide (x=y))) A):gk true (fq x) (fq y) A R:=by
 unfold gk;have h1:c_ A (fq x)=toQ (fq x):=rfl;have h2:c_ A (fq y)=toQ (fq y):=rfl;rw[h1,h2];have:=Ij x;refine⟨rfl,rfl,CA x,CA y,by omega,?_⟩;rw[wo];exact k
theorem Bx{pre:List (Str×Str×Rat)}{p:Str×Str×Rat}{n:Str}:(pre++[p]).find? (λq=>decide (q.2.1=n))=match pre.find? (λq=>decide (q.2.1=n)) with|some q=>some q|none=>if p.2.1=n then some p else none:=by
 rw[find?_append];cases pre.find? (λq=>decide (q.2.1=n)) with
 |some q=>rfl
 |none=>
  by_cases h:p.2.1=n
  .simp[h]
  .simp[h]
end DP
namespace My
open L2 DP MA
theorem IY(T:TopD K mg "bar" Ew sV)(f:aD P w K mg base 10 "shares" pQ (aB mg 1 vt)):aD P w K mg base 11 "bar" sV (aB mg 1 zz):=by
 refine bW T OZ λO Y Q o nd=>⟨_,(aE (dS 1 nd vW)
  (aE (eB dO rfl (d9 (dL f O Q (aa (vr 0) ah))) (mR rfl (f9 (dG 2 nd) (f9 (dG 3 nd) (f9 (dG 4 nd) mS)))) (aH (cz (nF o (vr 3) (vr 1)) (aH (v9 o (vr 1) (vr 3) (cg (aa (vr 2) (aa (vr 4) ah))) rfl)) (aH (cz (j_ o (dX o (dX o (vr 1) (vr 3)) ao) (vr 4)) (aH (aT (cg (aa (dX o (dX o (vr 1) (vr 3)) ao) (aa (vr 2) ah))))) cE)))))
  (aH (aT jU)))),λds A R h hl=>?_⟩
 obtain⟨m,rfl,S,hd,q⟩:=h;obtain⟨r,k⟩:∃t,t=eo [] (bM m "" 1):=⟨_,rfl⟩;rw[<-k] at q;refine⟨rfl,m,rfl,S,hd,λU M H h1 l1=>?_⟩;have l1:A.length+1<=M:=by simpa using l1
 refine eO h1 ?_;have ln:=lJ m "" 1;have nl:=nh hd;have hz:(1000:Nat)<=sizeLine:=by decide
 have V:=H.get (aG (A:=A) (c:=C.dct []));refine d_ (λrest τ A'=>∃(pre a:List (Str×Str×Rat)) (kvs:List (Key×D)) (x y z:Option D),rest=a.map ua/\τ=[some (enc m),some (.ref A.length),x,y,z]/\pre++a=bM m "" 1/\eo pre a=r/\A'[A.length]?=some (.dct kvs)/\kvs.length<=pre.length/\(∀n:Str,bf kvs (Sum.inr n)=(pre.find? λq=>decide (q.2.1=n)).map λp=>.tup [.str p.1,fq p.2.2])/\bS A.length U A'/\A.length+1<=A'.length) ?_ ?_ ?_ _ _ _ ⟨[],bM m "" 1,[],none,none,none,rfl,rfl,rfl,k.symm,V,aI _,λn=>rfl,bS.refl,by have:=H.len;simpa using this⟩
 .rintro rest τ A' ⟨pre,a,kvs,x,y,z,_,_,_,_,_,_,_,b,_⟩
  exact b M _ (by omega) h1
 .rintro v rest τ A' ⟨pre,a,kvs,x,y,z,e,rfl,I,d,s,W,J,b,u⟩ Z N
  cases a with
  |nil=>cases e
  |cons p a=>
   cases e;obtain⟨l,n,i⟩:=p;have g:=J n;have X:pre.length<=32:=by
    have:(pre++(l,n,i)::a).length=(bM m "" 1).length:=by rw[I]
    simp at this;omega
   unfold eo at d;refine⟨rfl,jy s rfl ?_⟩;cases j:pre.find? (λq=>decide (q.2.1=n)) with
   |none=>
    rw[j] at g d;have g:bf kvs (Sum.inr n)=none:=g;rw[g];refine⟨show 2<=sizeLine by decide,yh s rfl (by omega) ?_⟩;refine N _ _ ⟨pre++[(l,n,i)],a,_,_,_,_,rfl,rfl,by simpa using I,d,o5 s,?_,λn'=>?_,b.trans bS.set,by simpa using u⟩
    .have:=Oa kvs (Sum.inr n) (.tup [.str l,fq i])
     simp;omega
    .rw[rG,Bx]
     by_cases E:n=n'
     .subst E
      rw[aA rfl,j];simp
     .rw[ay (λz=>E (Sum.inr.inj z)),J n']
      cases pre.find? (λq=>decide (q.2.1=n')) with
      |some q=>rfl
      |none=>simp[E]
   |some B=>
    rw[j] at g d;have g:bf kvs (Sum.inr n)=some (.tup [.str B.1,fq B.2.2]):=g;rw[g];refine fH s rfl g ?_;refine sD ?_;by_cases L:B.2.2=i
    .have d:(if B.2.2=i then eo (pre++[(l,n,i)]) a else some (B.1,l))=r:=d
     rw[aA L] at d;refine cN (λc=>absurd L c) (λ_=>?_);refine N _ _ ⟨pre++[(l,n,i)],a,kvs,_,_,_,rfl,rfl,by simpa using I,d,s,by simp;omega,λn'=>?_,b,u⟩;rw[Bx,J n'];cases F:pre.find? (λq=>decide (q.2.1=n')) with
     |some q=>rfl
     |none=>
      by_cases E:n=n'
      .subst E
       rw[j] at F;cases F
      .simp[E]
    .have d:(if B.2.2=i then eo (pre++[(l,n,i)]) a else some (B.1,l))=r:=d
     rw[ay L] at d;refine cN (λ_=>?_) (λc=>absurd c L);refine fH s rfl g ?_;refine⟨show 2<=sizeLine by decide,?_⟩;have G:=q A' (Gr.Dc (Gr.push.trans H) (aI _) b);rw[<-d] at G;exact G
 .rintro τ A' ⟨pre,a,kvs,x,y,z,e,rfl,I,d,s,W,J,b,u⟩
  cases a with
  |cons p a=>cases e
  |nil=>
   have G:=q A' (Gr.Dc (Gr.push.trans H) (aI _) b);rw[<-d] at G;exact G
theorem I8(T:TopD K mg "_law_cell_at" Eg sJ)(a:mg "len"=none):aD P w K mg base 1 "_law_cell_at" sJ (aB mg 2 zB):=by
 refine bW T OO λi j l d nd=>⟨_,(aE (cz (yN (vr 1) (dW eY eu a fk (aa (vr 0) ah))) (aH (aT (dX d (vr 0) (vr 1)))) cE)
  (aE (cz (jh d (vr 0) (bK ah)) (aH (aT ao)) cE)
  (aH (aT (c8 (dY (dX d (vr 0) (mO (vr 1) (dW eY eu a fk (aa (vr 0) ah)))) ao) (vr 1)))))),λds A R h hl=>?_⟩
 obtain⟨ns,k,rfl,g,q⟩:=h;refine cD (λc=>?_) (λc=>?_)
 .obtain⟨v,e,_⟩:=vD g c
  conv=>whnf
  rw[e];exact q v _ Gr.refl
 .refine⟨cV _,IL ?_⟩
  refine cD (λf=>?_) (λf=>?_)
  .exact q _ _ Gr.push
  .have b:0<(ns.length:Int):=by
    have:=uW.mpr f;omega
   obtain⟨v,e,_⟩:=vD (xs:=ns) (qu k (by omega)) (qt k b);refine⟨b,?_⟩;conv=>whnf
   rw[e];exact⟨.inr ⟨by decide,by decide⟩,q _ _ Gr.push⟩
theorem Ju(T:TopD K mg "_law_mixed" Eo sP)(a:aD P w K mg base 1 "_law_cell_at" sJ (aB mg 2 zB)):aD P w K mg base 2 "_law_mixed" sP (aB mg 3 zQ):=by
 refine bW T OV λc f d j nd=>⟨_,(aE (dS 3 nd (mO (dY (c8 (c8 (dL a c d (aa (vr 0) (aa (vr 1) ah))) (dY ao (vr 1))) ao) ao) ao))
  (aH (aT (mO (mO (c8 (c8 (dY (vr 3) (vr 3)) (dY ao (vr 3))) (vr 1)) ao) (vr 2))))),λds A R h hl=>?_⟩
 obtain⟨ns,k,m,rfl,e,b,q⟩:=h;refine⟨rfl,ns,k,rfl,e,λi A' g=>?_⟩;refine⟨.inl ⟨by decide,by decide⟩,.inr ⟨by decide,by decide⟩,(by decide:(0:Int)<2147483647),?_⟩;have l:=qu ((i+7919*k+1)*48271) (show(2147483647:Int)≠0 by decide);have n:=qt ((i+7919*k+1)*48271) (show(0:Int)<2147483647 by decide);have o:(2147483647:Int)<2 ^ 64:=by decide
 refine⟨.inl ⟨by omega,by omega⟩,.inl ⟨by decide,by decide⟩,(by decide:(0:Int)<2147483629),b,?_⟩;exact q _ _ (qu _ (by omega)) (qt _ b) g
theorem Jc(T:TopD K mg "_law_draw" Eh lE)(b:mg "len"=none)(a:aD P w K mg base 2 "_law_mixed" sP (aB mg 3 zQ)):aD P w K mg base 3 "_law_draw" lE (aB mg 3 mG):=by
 refine bW T OP λe k f l nd=>⟨_,(aE (gm (gX iz lW l9 j5 kN (vr 1) (aa ao ah)))
  (aH (aT (dL a e f (aa (vr 0) (aa (dW eY eu b fk (aa (vr 1) ah)) (aa (vr 2) ah))))))),λds A R h hl=>?_⟩
 obtain⟨ns,t,m,n,rfl,⟨xs,d,hz⟩,o,j,q⟩:=h;refine⟨gZ d,kH d (by rw[sizeLine];omega) ?_⟩;have c:(A.set t (.lst (xs++[.int 0])))[t]?=some (.lst (xs++[.int 0])):=get_set d;refine gI c ⟨rfl,ns,_,m,rfl,by omega,j,λi A' h0 h1 g=>?_⟩;exact q i A' h0 h1 (bS.set.trans g.but) (Tw.gr ⟨_,c,by simpa using hz⟩ g)
theorem Jy(T:TopD K mg "_law_pick" Er nu)(c:mg "len"=none)(a:aD P w K mg base 3 "_law_draw" lE (aB mg 3 mG)):aD P w K mg base 4 "_law_pick" nu (aB mg 3 oA):=by
 refine bW T OW λd o e g nd=>⟨_,(aH (aT (dX g (vr 2) (dL a d e (aa (vr 0) (aa (vr 1) (aa (dW eY eu c fk (aa (vr 2) ah)) ah))))))),λds A R h hl=>?_⟩;obtain⟨ns,t,r,xs,n,rfl,f,d,e,j,k,q⟩:=h;have p:=uW.mpr e;refine gI d ⟨rfl,ns,t,_,n,rfl,j,k,by omega,λi A' h0 h1 b t'=>?_⟩;obtain⟨v,l,m⟩:=vD h0 h1;exact fB (b r _ f d) l (q v A' m b t')
end My
namespace L2
theorem jn.Mx{P:Program}{w:World}{K:Frag}{mg:aq}{base:Heap}{x:Str}{st:Stmt}{N ps:List Str}{k:Nat}{sp:Sp}{f:Addr}{fd:FuncData}(F:jn K x x st f fd)(S:bg N ps (aJ st))(len:∀b H Q E,sp b H Q E->b.length=ps.length)
  (c:∀(f:Addr) (a:Value) (A:Around) (outer:List Env) (s:Shared) (H:Hp) (b:List V) (Q:VK) (E:XK),dD k (A.deeper (envOfC x (aJ st) s.heap.objs.size f a))->sp b H Q E->
   ∃t,dB (bA (aY P w) P w K mg base N x (aJ st) f a A outer s H E) (fP st) t/\t {nx:=λ_ H'=>Q .ai H',rt:=Q} (start N b) H):fW P w K mg base (aY P w) (k+1) f fd ps sp:=by
 obtain⟨i,j,kV,doc,pm,an,a,ct,g,rfl,lk,d⟩:=F.ex;exact BB lk d S len λA outer s H b Q E h e=>c f a A outer s H b Q E h e
end L2
namespace DP
open L2 MA
theorem JK{P:Program}{w:World}{K:Frag}{mg:aq}{base:Heap}{x:Str}{st:Stmt}{Nm ps:List Str}{k n:Nat}{S:Ct}{u:Addr}{fd:FuncData}(T:jn K x x st u fd)(Sc:bg Nm ps (aJ st))(F:ps.length=n)(Y:ps.length<=Nm.length)
  (j:∀(N:En) (RE:DX) (f:Addr) (g:Value) (B:Around) (outer:List Env) (s:Shared) (H:Hp) (E:XK),dD k (bA (aY P w) P w K mg base Nm x (aJ st) f g B outer s H E).A->
   Raises (bA (aY P w) P w K mg base Nm x (aJ st) f g B outer s H E) (EL mg N RE)->Passes (aY P w) (bA (aY P w) P w K mg base Nm x (aJ st) f g B outer s H E) (EL mg N RE)->
   ∀ds A R,S ds A R RE->ds.length=n->∃m,dB (bA (aY P w) P w K mg base Nm x (aJ st) f g B outer s H E) (fP st) (bB mg N m)/\m {nx:=λ_ A'=>R .ai A',rt:=R} (jF (Nm.length - n) ds) A):fW P w K mg base (aY P w) (k+1) u fd ps (aB mg n S):=by
 refine T.Mx Sc (λG H Q E h=> ?_) λf g A outer s H G Q E J h=> ?_
 .obtain⟨A,ι,ds,R,RE,hl,_,o,_⟩:=h
  rw[<-aj.length o,hl,F]
 .obtain⟨p,l,ds,R,RE,hl,ra,o,L,y,M⟩:=h
  have D:∀C a H',EL mg ⟨p,l,H⟩ RE C a H'->E C none H':=λC a H' z=>by
   obtain⟨c,A',ι',⟨b,rfl,hc⟩,ex,r,q⟩:=z
   exact M c A' ι' H' b q hc ex r
  obtain⟨m,O,U⟩:=j ⟨p,l,H⟩ RE f g A outer s H E J
   (λpins σ H1 t e h' C args I V z=>DV pins σ H1 t e h' C args I V (D _ _ _ z))
   (λpins σ H1 t e s' I z=>Dh pins σ H1 t e s' I (by
    obtain⟨a,C,H',h1,h2,W⟩:=z
    exact⟨a,C,H',h1,h2,D _ _ _ W⟩)) ds p R L hl
  have X:=aj.length o
  refine⟨_,O,p,l,_,_,⟨ra,⟨?_,λi d q=> ?_⟩,ra.refl⟩,U,⟨λτ A' ι' σ H' q e r _=>y _ A' ι' H' _ q e r rfl,y,λ_ _ _ _ _ q _ _ _=>q.elim,λ_ _ _ _ _ q _ _ _=>q.elim⟩⟩
  .simp[jF,L2.start]
   omega
  .obtain⟨v,h1,h2⟩:=aj.get o (xJ ds _ i d q)
   refine⟨v,?_,h2⟩
   have hi:=(bR.mp h1).1
   unfold L2.start
   rw[gz (by simpa using hi),bH,h1]
   rfl
def zO:Ct:=λds A R _=>∃ns,ds=[.fl ns]/\∀A',R (.bl true) A'
def nD:Sp:=λvs H Q _=>∃(a:Addr) (o:Obj) (ns:List Int),vs=[.ref a]/\H a=some (.bz o (.lst (ns.map V.int)))/\∀H',Q (.bl true) H'
theorem PL{mg:aq}{b:List V}{H:Hp}{Q:VK}{E:XK}(h:nD b H Q E):aB mg 1 zO b H Q E:=by
 obtain⟨a,o,ns,rfl,h,q⟩:=h;refine⟨[],λ_=>a,[.fl ns],λv _=>v=.bl true,λ_ _=>False,rfl,⟨λr c h=>by simp at h,λr s d=>by simp at d⟩,⟨_,[],rfl,⟨a,o,rfl,h⟩,rfl⟩,⟨ns,rfl,λ_=>rfl⟩,λv A' ι' H' u e _ _ r=>?_,λ_ _ _ _ _ z=>z.elim⟩;subst e;cases r;exact q _
def lC(o:Obj):Bool:=match o.cls with
 |.type t=> !(decide (t="list"))
 |_=>true
theorem Ml{K:Frag}(h:K.all (λp=>lC p.2)=true){a:Addr}{o:Obj}(e:K.lookup a=some o):lC o=true:=by
 induction K with
 |nil=>cases e
 |cons p r b=>
  have h':lC p.2=true/\List.all r (λp=>lC p.2)=true:=by simpa using h
  rw[List.lookup] at e;split at e
  .cases e
   exact h'.1
  .exact b h'.2 e
theorem JM{K:Frag}(b:K.all (λp=>lC p.2)=true){H:Hp}{a:Addr}{ns:List Int}(d:qJ H)(f:aS K H a (ns.map V.int)):nD [.ref a] H (λv _=>v=.bl true) λ_ _ _=>False:=by
 rcases f with (e|⟨o,e⟩)|⟨o,its,n,e,c,_⟩
 .rcases d a with z|⟨o,xs,z⟩
  .rw[z] at e;cases e
  .rw[z] at e;cases e
 .exact⟨a,o,ns,rfl,e,λ_=>rfl⟩
 .have:=Ml b e
  unfold lC at this;rw[c] at this;simp at this
theorem BF:∀(ps:List (Str×D)) (acc:List (Key×D)) (ns:List Str),acc.map (·.1)=ns.map Sum.inr->ns.Nodup->
  ∃d:List Str,((ps.map λp=>((Sum.inr p.1:Key),p.2)).foldl (λacc p=>cG acc p.1 p.2) acc).map (·.1)=d.map Sum.inr/\d.Nodup/\(∀n,n∈d↔n∈ns\/n∈ps.map (·.1))
 |[],acc,ns,h1,h2=>⟨ns,h1,h2,λn=>by simp⟩
 |p::ps,acc,ns,h1,h2=>by
  have key:∃f:List Str,(cG acc (Sum.inr p.1) p.2).map (·.1)=f.map Sum.inr/\f.Nodup/\∀n,n∈f↔n∈ns\/n=p.1:=by
   by_cases j:(acc.any λc=>decide (c.1=(Sum.inr p.1:Key)))=true
   .have e:cG acc (Sum.inr p.1) p.2=acc.map λc=>if c.1=(Sum.inr p.1:Key) then (c.1,p.2) else c:=by
     unfold cG;rw[aA j]
    refine⟨ns,?_,h2,λn=>?_⟩
    .rw[e,cY,<-h1]
     refine nW λc _=>?_;show(if c.1=(Sum.inr p.1:Key) then (c.1,p.2) else c).1=c.1;split<;>rfl
    .have g:p.1∈ns:=by
      obtain⟨c,i,m⟩:=nP.mp j;have:c.1∈acc.map (·.1):=gw i;rw[h1,fE m] at this;obtain⟨x,o,e⟩:=br.mp this;rw[<-Sum.inr.inj e];exact o
     constructor
     .exact .inl
     .rintro (h|rfl)
      .exact h
      .exact g
   .have e:cG acc (Sum.inr p.1) p.2=acc++[(Sum.inr p.1,p.2)]:=by
     unfold cG;rw[ay j]
    have k:p.1∉ns:=λg=>j (by
     have:(Sum.inr p.1:Key)∈acc.map (·.1):=by rw[h1];exact gw g
     obtain⟨c,i,e⟩:=br.mp this;exact nP.mpr ⟨c,i,cW e⟩)
    refine⟨ns++[p.1],by rw[e];simp[h1],?_,λn=>by simp⟩;rw[qk];refine⟨h2,by simp,λa l b q=>?_⟩;rw[b_.mp q];exact λz=>k (by rw[<-z];exact l)
  obtain⟨f,k1,k2,k3⟩:=key;obtain⟨d,r,s,t⟩:=BF ps _ f k1 k2;refine⟨d,r,s,λn=>?_⟩;rw[t,k3];simp[or_assoc]
def j7(p:Str×Str×Rat):D:=.tup [.str p.2.1,fq p.2.2]
theorem yd:∀a:List (Str×Str×Rat),fJ (a.map j7)=some ((a.map λp=>(p.2.1,fq p.2.2)).map λp=>((Sum.inr p.1:Key),p.2))
 |[]=>rfl
 |r::a=>by
  have:=yd a;simp only[cB,j7,fJ,fR,this]
theorem AV{A:Ar}{r:Nat}{xs:List D}{ps:List (Key×D)}{R:DK}(h:A[r]?=some (.lst xs))(a:fJ xs=some ps)(hl:ps.length<=1000)(k:R (.ref A.length) (A++[.dct (tV ps)])):q_ r A R:=by
 unfold q_;simp only[h];unfold dctP;rw[a];exact⟨hl,k⟩
abbrev Tb:=List (Str×Rat)
abbrev aN:=Nat×Str×Str
abbrev aW:=List (Str×List aN)
def av(s:aN):D:=.tup [.int ((s.1:Nat):Int),.str s.2.1,.str s.2.2]
def af(T:Tb):List Str:=T.map (·.1)
def aU(T:Tb):List (Key×D):=T.map λp=>((Sum.inr p.1:Key),fq p.2)
noncomputable def au(T:Tb)(n:Str):Rat:=match T.find? (λp=>decide (p.1=n)) with
 |some p=>p.2
 |none=>0
def fU(n:Str)(p:Tb×Nat):List aN:=if n∈af p.1 then (af p.1).map (λo=>(p.2,n,o)) else []
def fh(Ts:List Tb)(n:Str):List aN:=Ts.zipIdx.flatMap (fU n)
def dM(P:aW)(n:Str):List aN:=match P.find? (λp=>decide (p.1=n)) with
 |some p=>p.2
 |none=>[]
def aZ(P:aW):List Str:=P.map (·.1)
def cC(P:aW)(s:aN):aW:=if s.2.2∈aZ P then P else P++[(s.2.2,dM P s.2.1++[s])]
def eW(Ts:List Tb):Nat->Nat->aW->aW
 |0,_,P=>P
 |f+1,i,P=>match P[i]? with
  |some p=>eW Ts f (i+1) ((fh Ts p.1).foldl cC P)
  |none=>P
def ic(Ts:List Tb)(n:Str):aW:=eW Ts 14 0 [(n,[])]
structure f6(T:Tb):Prop where
 nd:(af T).Nodup
 ne:T≠[]
 len:T.length<=32
 JL:∀p∈T,u7 p.2
structure gh(Ts:List Tb)(NN:List Str):Prop where
 len:Ts.length<=7
 tok:∀T∈Ts,f6 T
 nn:NN.length<=12
 sub:∀T∈Ts,∀n∈af T,n∈NN
theorem rF:∀(T:Tb) (n:Str),bf (aU T) (Sum.inr n)=(T.find? (λp=>decide (p.1=n))).map (λp=>fq p.2)
 |[],n=>rfl
 |p::T,n=>by
  show(if (Sum.inr p.1:Key)=Sum.inr n then some (fq p.2) else bf (aU T) (Sum.inr n))=_;by_cases h:p.1=n
  .rw[aA (by rw[h]),List.find?_cons_of_pos (by simpa using h)]
   rfl
  .rw[ay (λz=>h (Sum.inr.inj z)),List.find?_cons_of_neg (by simpa using h)]
   exact rF T n
theorem find_some{β:Type}{T:List (Str×β)}{n:Str}:(T.find? (λp=>decide (p.1=n))).isSome=decide (n∈T.map (·.1)):=by
 rw[mz,List.find?_isSome,nQ];constructor
 .rintro ⟨p,a,h⟩
  rw[<-fE h];exact gw a
 .intro h
  obtain⟨p,a,e⟩:=br.mp h;exact⟨p,a,cW e⟩
theorem kT(T:Tb)(n:Str):(bf (aU T) (Sum.inr n)).isSome=decide (n∈af T):=by
 rw[rF,isSome_map];exact find_some
theorem gH{T:Tb}{n:Str}(h:n∈af T):bf (aU T) (Sum.inr n)=some (fq (au T n)):=by
 have:=find_some (T:=T) (n:=n);rw[cW (show n∈T.map (·.1) from h)] at this;obtain⟨p,a⟩:=mq.mp this;rw[rF,a];unfold au;rw[a];rfl
theorem j0(T:Tb):(aU T).map (·.1)=(af T).map Sum.inr:=by
 unfold aU af;rw[cY,cY];rfl
theorem Cy(T:Tb):((aU T).map λp=>keyOf p.1)=(af T).map D.str:=by
 unfold aU af;rw[cY,cY];rfl
theorem p7{T:Tb}(h:f6 T){n:Str}(b:n∈af T):u7 (au T n):=by
 have:=find_some (T:=T) (n:=n);rw[cW (show n∈T.map (·.1) from b)] at this;obtain⟨p,a⟩:=mq.mp this;unfold au;rw[a];exact h.JL p (iO a)
theorem vz(P:aW)(s:aN):∀n,n∈aZ (cC P s)↔n∈aZ P\/n=s.2.2:=λn=>by
 unfold cC;split
 .rename_i h
  constructor
  .exact .inl
  .rintro (h'|rfl)
   .exact h'
   .exact h
 .simp[aZ]
theorem GH{P:aW}(s:aN)(h:(aZ P).Nodup):(aZ (cC P s)).Nodup:=by
 unfold cC;split
 .exact h
 .rename_i d
  unfold aZ;rw[cX,qk];refine⟨h,by simp,λa e b c=>?_⟩;simp at c;rw[c];exact λz=>d (by rw[<-z];exact e)
theorem ni:∀(xs ys:List Str),xs.Nodup->(∀x∈xs,x∈ys)->xs.length<=ys.length:=by
 intro xs;induction xs with
 |nil=>intro ys _ _;exact cV _
 |cons x r e=>
  intro ys f b;have a:=ki.mp f;have c:=b x (cR ..);have:=e (ys.erase x) a.2 λy d=>(List.mem_erase_of_ne (λz=>a.1 (by rw[<-z];exact d))).mpr (b y (cj _ d));rw[List.length_erase_of_mem c] at this;have:=List.length_pos_of_mem c;simp;omega
theorem xS{f:List Tb}{n:Str}{s:aN}:s∈fh f n↔∃T,f[s.1]?=some T/\n∈af T/\s.2.1=n/\s.2.2∈af T:=by
 unfold fh;rw[qj];constructor
 .rintro ⟨⟨T,i⟩,b,a⟩
  have b:=nK.mp b;unfold fU at a;split at a
  .rename_i c
   obtain⟨o,d,rfl⟩:=br.mp a;exact⟨T,b,c,rfl,d⟩
  .cases a
 .rintro ⟨T,g,c,e,d⟩
  refine⟨(T,s.1),nK.mpr g,?_⟩;unfold fU;rw[aA c];exact br.mpr ⟨s.2.2,d,by rw[<-e]⟩
theorem BC:∀(ss:List aN) (P:aW) (n:Str),n∈aZ (ss.foldl cC P)↔n∈aZ P\/n∈ss.map (·.2.2)
 |[],P,n=>by simp
 |s::ss,P,n=>by
  rw[iA,BC ss,vz];simp[or_assoc]
theorem GI(P:aW)(s:aN):∃X,cC P s=P++X:=by
 unfold cC;split
 .exact⟨[],by simp⟩
 .exact⟨_,rfl⟩
theorem wI:∀(ss:List aN) (P:aW),∃X,ss.foldl cC P=P++X
 |[],P=>⟨[],by simp⟩
 |s::ss,P=>by
  obtain⟨X,e⟩:=GI P s;obtain⟨Y,a⟩:=wI ss (cC P s);exact⟨X++Y,by rw[iA,a,e,append_assoc]⟩
def TabAt(A:Ar)(t:Nat)(T:Tb):Prop:=A[t]?=some (.dct (aU T))\/∃o,A[t]?=some (.bx o (aU T))
def TabsAt(A:Ar):List Nat->List Tb->Prop
 |[],[]=>True
 |t::ts,T::Ts=>TabAt A t T/\TabsAt A ts Ts
 |_,_=>False
def gQ(A:Ar)(r:Nat)(Ts:List Tb):Prop:=∃ts,A[r]?=some (.lst (ts.map D.ref))/\TabsAt A ts Ts
theorem TabAt.gr{A B:Ar}{t:Nat}{T:Tb}(h:TabAt A t T)(g:Gr A B):TabAt B t T:=by
 rcases h with h|⟨o,h⟩
 .exact .inl (g.get h)
 .exact .inr ⟨o,g.get h⟩
theorem TabsAt.gr{A B:Ar}(g:Gr A B):∀{ts:List Nat} {a:List Tb},TabsAt A ts a->TabsAt B ts a
 |[],[],_=>trivial
 |t::ts,T::a,h=>⟨h.1.gr g,TabsAt.gr g h.2⟩
 |[],_::_,h=>h.elim
 |_::_,[],h=>h.elim
theorem TabsAt.len{A:Ar}:∀{ts:List Nat} {a:List Tb},TabsAt A ts a->ts.length=a.length
 |[],[],_=>rfl
 |t::ts,T::a,h=>by simp[TabsAt.len h.2]
 |[],_::_,h=>h.elim
 |_::_,[],h=>h.elim
theorem TabsAt.get{A:Ar}:∀{ts:List Nat} {a:List Tb} {i t:Nat},TabsAt A ts a->ts[i]?=some t->∃T,a[i]?=some T/\TabAt A t T
 |[],[],i,t,_,e=>by simp at e
 |t::ts,T::a,0,_,h,e=>by
  simp at e;subst e;exact⟨T,rfl,h.1⟩
 |t::ts,T::a,i+1,_,h,e=>by
  obtain⟨b,h1,h2⟩:=TabsAt.get (i:=i) h.2 (by simpa using e);exact⟨b,by simpa using h1,h2⟩
 |[],_::_,_,_,h,_=>h.elim
 |_::_,[],_,_,h,_=>h.elim
theorem gQ.gr{A B:Ar}{r:Nat}{a:List Tb}(h:gQ A r a)(g:Gr A B):gQ B r a:=by
 obtain⟨ts,h1,h2⟩:=h;exact⟨ts,g.get h1,h2.gr g⟩
theorem BH{τ:bq}{A:Ar}{j t:Nat}{ix:List Nat}{te:aM}{R:DK}{T:Tb}(f:D->D)(g:lk τ j=some (.ref t))(l:TabAt A t T)(hl:T.length<=1000)
  (b:∀A':Ar,∀o∈af T,∀Q:DK,Q (f (.str o)) A'->te ([some (.str o)]++ix.map (lk τ)) A' Q)(k:R (.ref A.length) (A++[.lst ((af T).map λo=>f (.str o))])):AH (jT none ix (pe (dh j)) lK te) τ A R:=by
 have hz:(1000:Nat)<=sizeLine:=by decide
 have c:(af T).length=T.length:=by simp[af]
 have em:((aU T).map λp=>keyOf p.1)=(af T).map D.str:=Cy T;have go:∀(A':Ar) (o:Obj) (d:DK),A'[t]?=some (.bx o (aU T))->d (.ref A'.length) (A'++[.lst ((af T).map λo=>f (.str o))])->jT none ix (pe (dh j)) lK te τ A' d:=λA' o d h' m=>by
  unfold jT pe dh;rw[g];refine Cq h' ?_;rw[em];refine i7 (f:=f) h' _ _ (λx q=>?_) (by simp[c];omega) ?_
  .obtain⟨n,r,rfl⟩:=br.mp q
   exact⟨[.str n],rfl,λQ s=>b A' n r Q s⟩
  .rw[gx,cY]
   exact m
 rcases l with h|⟨o,h⟩
 .have a:=bU h
  refine .inl ⟨t,aU T,h,λo=>go _ o _ (fu a) ⟨aU T,?_,?_⟩⟩
  .rw[gz (by simpa using a)]
   exact fu a
  .have e:(A.set t (.bx o (aU T))++[C.lst ((af T).map λo=>f (.str o))]).set t (.dct (aU T))=A++[.lst ((af T).map λo=>f (.str o))]:=by
    rw[ze _ _ (by simpa using a),List.set_set];congr 1;refine ext_getElem? λi=>?_;by_cases hi:i=t
    .rw[hi,fu a,h]
    .rw[fm (Ne.symm hi)]
   rw[e];have u:(A.set t (C.bx o (aU T))).length=A.length:=by simp
   rw[u];exact k
 .exact .inr (go A o R h k)
def z4:Ct:=λds A R _=>∃r n Ts,ds=[.ref r,.str n]/\gQ A r Ts/\Ts.length<=7/\(∀T∈Ts,T.length<=32)/\∀A' q,Gr A A'->A'[q]?=some (.lst ((fh Ts n).map av))->A.length<=q->R (.ref q) A'
theorem kQ(ds:List D):(fG ds).length=ds.length:=by simp[fG]
theorem wm{ds:List D}{i:Nat}{x:D}(h:ds[i]?=some x):(fG ds)[i]?=some (.tup [.int ((i:Nat):Int),x]):=by
 unfold fG;rw[bH,zc,h];simp
theorem FN{a:List Tb}{i:Nat}{T:Tb}(h:a[i]?=some T):a.zipIdx.take (i+1)=a.zipIdx.take i++[(T,i)]:=by
 rw[take_succ,zc,h];simp
theorem PX(n:Str)(p:Tb×Nat)(h:p.1.length<=32):(fU n p).length<=32:=by
 unfold fU;split
 .simp[af];exact h
 .simp
theorem By(n:Str):∀(l:List (Tb×Nat)),(∀p∈l,p.1.length<=32)->(l.flatMap (fU n)).length<=32*l.length
 |[],_=>by simp
 |p::l,h=>by
  have h1:=By n l λq a=>h q (cj _ a);have h2:=PX n p (h p (cR ..));rw[List.flatMap_cons,dI,jl];omega
end DP
namespace My
open L2 DP MA
theorem JJ(T:TopD K mg "steps_from" EW tQ)(a:mg "enumerate"=none):aD P w K mg base 1 "steps_from" tQ (aB mg 2 z4):=by
 refine bW T Pk λO S U E nd=>⟨_,(aE (dS 2 nd (bK ah))
  (aE (eB dO rfl (vX a (aa (vr 0) ah)) (mR rfl (f9 (dG 3 nd) (f9 (dG 4 nd) mS))) (aH (cz (QA E (vr 1) (vr 4)) (aH (gm (gX iz slot_list_extend type_list_extend xU vS (vr 2) (aa (AX (i8 none (own:=["other"]) (frees:=["place","name"]) (ix:=[3,1]) rfl (vY (vr 4)) (λc=>(pG 0 (show(["other","place","name"]:List Str).Nodup by decide+kernel))) (λc=>(cg (aa (vr 1) (aa (vr 2) (aa (vr 0) ah))))))) ah)))) cE)))
  (aH (aT (vr 2))))),λds A R h hl=>?_⟩
 obtain⟨r,n,d,rfl,F,V,f,q⟩:=h;obtain⟨ts,h1,h2⟩:=F;have hz:(1000:Nat)<=sizeLine:=by decide
 have m:=h2.len;have len:∀i,((d.zipIdx.take i).flatMap (fU n)).length<=224:=λi=>by
  have:=By n (d.zipIdx.take i) λp G=>by
   have:=nK.mp (lO G);exact f _ (dw this)
  rw[jM,uY] at this;omega
 refine⟨cV _,rT (getElem?_push h1) ?_⟩;refine d_ (λrest τ A'=>∃(i:Nat) (x y:Option D),i<=ts.length/\rest=(fG (ts.map D.ref)).drop i/\τ=[some (.ref r),some (.str n),some (.ref A.length),x,y]/\A'[A.length]?=some (.lst (((d.zipIdx.take i).flatMap (fU n)).map av))/\Gr A A') ?_ ?_ ?_ _ _ _ ⟨0,none,none,cV _,rfl,rfl,aG,Gr.push⟩
 .rintro rest τ A' ⟨i,x,y,_,_,_,_,g⟩
  exact g.get h1
 .rintro v rest τ H ⟨i,x,y,hi,e,rfl,hc,g⟩ W z
  by_cases j:i<ts.length
  .obtain⟨t,B⟩:∃t,ts[i]?=some t:=⟨ts[i],bO j⟩
   obtain⟨T,C,I⟩:=h2.get B;have k:=I.gr g;have b:i<(fG (ts.map D.ref)).length:=by rw[kQ,aR];exact j
   have ev:=wm (ds:=ts.map D.ref) (i:=i) (x:=.ref t) (by rw[bH,B];rfl);rw[kB b] at e;rw[bO b] at ev;have ev:=Option.some.inj ev;rw[ev] at e;cases e;have l:∀L,L=fU n (T,i)->((d.zipIdx.take (i+1)).flatMap (fU n))=((d.zipIdx.take i).flatMap (fU n))++L:=λL J=>by
    rw[FN C,uS,J];simp
   have ln:=len i;refine⟨rfl,Cm k rfl ?_⟩;rw[ay b9,kT];refine cD (λc=>?_) (λc=>?_)
   .have s:fU n (T,i)=(af T).map (λo=>(i,n,o)):=by unfold fU;rw[aA c]
    have M:=f T (dw C);have u:(af T).length=T.length:=by simp[af]
    refine⟨gZ hc,BH (λo=>.tup [.int ((i:Nat):Int),.str n,o]) rfl k (by omega) (λA' o X Q N=>⟨show 3<=sizeLine by omega,N⟩) ?_⟩;refine wB (getElem?_push hc) aG (by rw[aR,aR,u];omega) ?_;have em:((af T).map λo=>D.tup [.int ((i:Nat):Int),.str n,.str o])=(fU n (T,i)).map av:=by
     rw[s,cY];rfl
    refine z _ _ ⟨i+1,_,_,by omega,rfl,rfl,?_,(g.trans Gr.push).set (aI _)⟩;rw[l _ rfl,cX,em];exact get_set (getElem?_push hc)
   .have s:fU n (T,i)=[]:=by unfold fU;rw[ay c]
    refine z _ _ ⟨i+1,_,_,by omega,rfl,rfl,?_,g⟩;rw[l _ rfl,s,kr];exact hc
  .rw[qq (by rw[kQ,aR];omega)] at e
   cases e
 .rintro τ H ⟨i,x,y,hi,e,rfl,hc,g⟩
  have hi:i=ts.length:=by
   have:=bV List.length e;simp[kQ] at this;omega
  rw[hi,m,uO (by rw[uY];exact aI _)] at hc;exact q _ _ g hc (aI _)
end My
namespace DP
open L2 MA
theorem CF{P X:aW}{n:Str}(h:n∈aZ P):dM (P++X) n=dM P n:=by
 have:=find_some (T:=P) (n:=n);rw[cW (show n∈P.map (·.1) from h)] at this;obtain⟨p,a⟩:=mq.mp this;unfold dM;rw[find?_append,a];rfl
theorem LI{P:aW}{n:Str}{l:List aN}(h:n∉aZ P):dM (P++[(n,l)]) n=l:=by
 have:=find_some (T:=P) (n:=n);rw[eL (show ¬n∈P.map (·.1) from h)] at this;have e:P.find? (λp=>decide (p.1=n))=none:=by
  cases e:P.find? (λp=>decide (p.1=n)) with
  |none=>rfl
  |some p=>rw[e] at this;cases this
 unfold dM;rw[find?_append,e];simp
theorem r_{P:aW}{n:Str}(h:n∈aZ P):(n,dM P n)∈P:=by
 have:=find_some (T:=P) (n:=n);rw[cW (show n∈P.map (·.1) from h)] at this;obtain⟨p,a⟩:=mq.mp this;have h1:=iO a;have h2:=nR a;unfold dM;rw[a];have h2:p.1=n:=fE h2;rw[<-h2];exact h1
def kF(b:Nat)(A:Ar)(P:aW):Prop:=∃kvs,A[b+1]?=some (.dct kvs)/\A[b+2]?=some (.lst ((aZ P).map D.str))/\kvs.map (·.1)=(aZ P).map Sum.inr/\∀n∈aZ P,∃a,a≠b+2/\b<=a/\bf kvs (Sum.inr n)=some (.ref a)/\A[a]?=some (.lst ((dM P n).map av))
structure gi(P:aW)(NN:List Str):Prop where
 nd:(aZ P).Nodup
 sub:∀n∈aZ P,n∈NN
 pl:∀p∈P,p.2.length+1<=P.length
theorem gi.len{P:aW}{a:List Str}(h:gi P a):P.length<=a.length:=by
 have:=ni (aZ P) a h.nd h.sub;simpa[aZ] using this
theorem gi.add{P:aW}{a:List Str}(h:gi P a){s:aN}(h1:s.2.1∈aZ P)(h2:s.2.2∈a):gi (cC P s) a:=by
 refine⟨GH s h.nd,λn b=>?_,λp hp=>?_⟩
 .rcases (vz P s n).mp b with h'|rfl
  .exact h.sub n h'
  .exact h2
 .unfold cC at hp ⊢
  split at hp
  .rename_i hc
   rw[aA hc];exact h.pl p hp
  .rename_i hc
   rw[ay hc,dI];rcases ck.mp hp with hp|hp
   .have:=h.pl p hp
    simp;omega
   .rw[b_.mp hp]
    have:=h.pl _ (r_ h1);simp at this ⊢;omega
def fZ(lo:Nat)(A:Ar)(q:Nat)(P:aW):Prop:=lo<=q/\∃kvs,A[q]?=some (.dct kvs)/\kvs.map (·.1)=(aZ P).map Sum.inr/\∀n∈aZ P,∃a,lo<=a/\bf kvs (Sum.inr n)=some (.ref a)/\A[a]?=some (.lst ((dM P n).map av))
theorem fZ.gr{A B:Ar}{lo q:Nat}{P:aW}(h:fZ lo A q P)(g:Gr A B):fZ lo B q P:=by
 obtain⟨h0,kvs,h1,h2,b⟩:=h;exact⟨h0,kvs,g.get h1,h2,λn c=>by obtain⟨a,z,x,y⟩:=b n c;exact⟨a,z,x,g.get y⟩⟩
theorem fZ.set{A:Ar}{lo q t:Nat}{P:aW}{c:C}(h:fZ lo A q P)(g:t<lo):fZ lo (A.set t c) q P:=by
 obtain⟨h0,kvs,h1,h2,e⟩:=h;have b:∀(j:Nat) (d:C),lo<=j->A[j]?=some d->(A.set t c)[j]?=some d:=λj d i hd=>by
  rw[fm (by omega)];exact hd
 exact⟨h0,kvs,b _ _ h0 h1,h2,λn f=>by obtain⟨a,z,x,y⟩:=e n f;exact⟨a,z,x,b _ _ z y⟩⟩
theorem fZ.lo{A:Ar}{lo b q:Nat}{P:aW}(h:fZ lo A q P)(hl:b<=lo):fZ b A q P:=by
 obtain⟨h0,kvs,h1,h2,c⟩:=h;exact⟨by omega,kvs,h1,h2,λn d=>by obtain⟨a,z,x,y⟩:=c n d;exact⟨a,by omega,x,y⟩⟩
theorem kF.gr{A B:Ar}{b:Nat}{P:aW}(h:kF b A P)(g:Gr A B):kF b B P:=by
 obtain⟨kvs,h1,h2,c,d⟩:=h;exact⟨kvs,g.get h1,g.get h2,c,λn e=>by obtain⟨a,z,f,x,y⟩:=d n e;exact⟨a,z,f,x,g.get y⟩⟩
theorem xA{kvs:List (Key×D)}{ns:List Str}{n:Str}(h:kvs.map (·.1)=ns.map Sum.inr):(bf kvs (Sum.inr n)).isSome=decide (n∈ns):=by
 induction kvs generalizing ns with
 |nil=>
  cases ns with
  |nil=>rfl
  |cons _ _=>cases h
 |cons p kvs a=>
  cases ns with
  |nil=>cases h
  |cons m ns=>
   rw[cB,cB,List.cons.injEq] at h;show(if p.1=Sum.inr n then some p.2 else bf kvs (Sum.inr n)).isSome=_;rw[h.1];by_cases e:m=n
   .rw[aA (by rw[e])]
    simp[e]
   .rw[ay (λz=>e (Sum.inr.inj z)),a h.2]
    simp[Ne.symm e]
theorem vH{a:List Tb}{f i:Nat}{P:aW}{p:Str×List aN}(h:P[i]?=some p):eW a (f+1) i P=eW a f (i+1) ((fh a p.1).foldl cC P):=by
 show(match P[i]? with|some p=>eW a f (i+1) ((fh a p.1).foldl cC P)|none=>P)=_;rw[h]
theorem GW{a:List Tb}{f i:Nat}{P:aW}(h:P.length<=i):eW a f i P=P:=by
 cases f with
 |zero=>rfl
 |succ f=>
  show(match P[i]? with|some p=>eW a f (i+1) ((fh a p.1).foldl cC P)|none=>P)=_;rw[mj h]
def vq:Ct:=λds A R _=>∃r n Ts NN,ds=[.ref r,.str n]/\gQ A r Ts/\gh Ts NN/\n∈NN/\∀A' q,Gr A A'->fZ A.length A' q (ic Ts n)->R (.ref q) A'
theorem fC{A:Ar}{i j:Nat}{c d:C}(a:i≠j)(h:A[j]?=some d):(A.set i c)[j]?=some d:=by
 rw[fm a];exact h
theorem p5{A:Ar}{i:Nat}{c d:C}(h:A[i]?=some d):(A.set i c)[i]?=some c:=fu (bU h)
theorem Lr{kvs:List (Key×D)}{ns:List Str}{n:Str}{v:D}(h:kvs.map (·.1)=ns.map Sum.inr)(a:n∉ns):(cG kvs (Sum.inr n) v).map (·.1)=(ns++[n]).map Sum.inr:=by
 rw[Ob (λp b z=>?_)]
 .simp[h]
 .have:p.1∈kvs.map (·.1):=gw b
  rw[h,z] at this;obtain⟨m,c,e⟩:=br.mp this;rw[<-Sum.inr.inj e] at a;exact a c
end DP
namespace My
open L2 DP MA
theorem JA(T:TopD K mg "paths_from" EN tM)(E:mg "len"=none)(d:aD P w K mg base 1 "steps_from" tQ (aB mg 2 z4)):aD P w K mg base 2 "paths_from" tM (aB mg 2 vq):=by
 refine bW T Pd λhr hR hx B nd=>⟨_,(aE (dS 2 nd (AW (vr 1) (bK ah)))
  (aE (dS 3 nd (bK (aa (vr 1) ah)))
  (aE (dS 4 nd ao)
  (aE (wc dO (yN (vr 4) (dW eY eu E fk (aa (vr 3) ah))) (aE (eB dO rfl (d9 (dL d hr hx (aa (vr 0) (aa (dX B (vr 3) (vr 4)) ah)))) (dG 5 nd) (aH (cz (nF B (dX B (vr 5) ao) (vr 2)) (aE (v9 B (vr 2) (dX B (vr 5) ao) (c8 (dX B (vr 2) (dX B (vr 5) ao)) (bK (aa (vr 5) ah))) rfl)
  (aH (gm (gX iz lW l9 j5 kN (vr 3) (aa (dX B (vr 5) ao) ah))))) cE)))
  (aH (Iw (i:=4) nd rfl (by first|exact Or.inl rfl|exact Or.inr rfl) ao))))
  (aH (aT (vr 2))))))),λds A R h hl=>?_⟩
 obtain⟨r,n,s,NN,rfl,hB,hok,hn,q⟩:=h;have hz:(1000:Nat)<=sizeLine:=by decide
 have e1:(A++[C.lst []]).length=A.length+1:=by simp
 have e2:(A++[C.lst []]++[C.dct [(Sum.inr n,D.ref A.length)]]).length=A.length+2:=by simp
 refine⟨cV _,show 1<=sizeLine by omega,?_⟩;have wX:kF A.length (A++[C.lst []]++[C.dct [(Sum.inr n,D.ref A.length)]]++[C.lst [D.str n]]) [(n,[])]:=by
  refine⟨[(Sum.inr n,D.ref A.length)],?_,?_,rfl,λm hm=>⟨A.length,by omega,aI _,?_,?_⟩⟩
  .rw[<-e1];exact getElem?_push aG
  .rw[<-e2];exact aG
  .have:m=n:=by simpa[aZ] using hm
   subst this;exact aA rfl
  .have:m=n:=by simpa[aZ] using hm
   subst this;have e:dM [(m,[])] m=[]:=by simp[dM]
   rw[e];exact getElem?_push (getElem?_push aG)
 refine⟨λk τ A'=>∃(i:Nat) (Q:aW) (x:Option D),k=13 - i/\τ=[some (.ref r),some (.str n),some (.ref (A++[C.lst []]).length),some (.ref (A++[C.lst []]++[C.dct [(Sum.inr n,D.ref A.length)]]).length),some (.int ((i:Nat):Int)),x]/\i<=Q.length/\kF A.length A' Q/\gi Q NN/\eW s (14 - i) i Q=ic s n/\Gr A A',⟨13,0,[(n,[])],none,rfl,rfl,by simp,wX,⟨by simp[aZ],λm hm=>by
   have:m=n:=by simpa[aZ] using hm
   rw[this];exact hn,λp M=>by
   have:p=(n,[]):=by simpa using M
   rw[this];simp⟩,rfl,((Gr.push.trans Gr.push).trans Gr.push)⟩,?_⟩
 rw[e1,e2];rintro k τ A1 ⟨i,Q,x,rfl,rfl,hi,hS,hP,hb,g1⟩;have Lx:Q.length<=12:=dU hP.len hok.nn;obtain⟨N,hd0,F,hk0,hv0⟩:=id hS;refine gI F ?_;have O:((aZ Q).map D.str).length=Q.length:=by simp[aZ]
 refine cD (λc=>?_) (λc=>?_)
 .rw[O] at c
  have c:i<Q.length:=by omega
  obtain⟨p,M⟩:∃p,Q[i]?=some p:=⟨Q[i],bO c⟩;have Kr:p.1∈aZ Q:=gw (dw M);refine⟨λτ A'=>∃(I:aW) (x:Option D),τ=[some (.ref r),some (.str n),some (.ref (A.length+1)),some (.ref (A.length+2)),some (.int ((i+1:Nat):Int)),x]/\i+1<=I.length/\kF A.length A' I/\gi I NN/\eW s (14 - (i+1)) (i+1) I=ic s n/\Gr A A',λbI A' ⟨I,x,h1,h2,S,h4,h5,h6⟩=>⟨13 - (i+1),by omega,i+1,I,x,rfl,h1,h2,S,h4,h5,h6⟩,?_⟩;refine fB F (v:=.str p.1) (iG (by rw[bH];unfold aZ;rw[bH,M];rfl)) ?_;refine⟨rfl,r,p.1,s,rfl,hB.gr g1,hok.len,λT hT=>(hok.tok T hT).len,λA2 q2 g2 h2 l2=>?_⟩;have gl:=g1.len;have lr:=bU F;refine eO h2 ?_;refine d_ (λrest τ A'=>∃(l b:List aN) (x:Option D),rest=b.map av/\l++b=fh s p.1/\τ=[some (.ref r),some (.str n),some (.ref (A.length+1)),some (.ref (A.length+2)),some (.int ((i:Nat):Int)),x]/\kF A.length A' (l.foldl cC Q)/\gi (l.foldl cC Q) NN/\A'[q2]?=some (.lst ((fh s p.1).map av))/\Gr A A') ?_ ?_ ?_ _ _ _ ⟨[],fh s p.1,x,rfl,rfl,rfl,hS.gr g2,hP,h2,g1.trans g2⟩
  .rintro rest τ A' ⟨l,b,x,_,_,_,_,_,h,_⟩
   exact h
  .rintro v rest τ U ⟨l,b,x,e,g,rfl,u,j,S,g3⟩ Nx hN
   cases b with
   |nil=>cases e
   |cons st b=>
   cases e;have hst:st∈fh s p.1:=by rw[<-g];simp
   obtain⟨T,hT,hn1,hn2,Kh⟩:=xS.mp hst;obtain⟨kvs,hd,V,hk,hv⟩:=id u;have f:(l++[st]).foldl cC Q=cC (l.foldl cC Q) st:=by rw[l_];rfl
   generalize J':l.foldl cC Q=o at*
   have G:st.2.1∈aZ o:=by
    rw[<-J',BC,hn2];exact .inl Kr
   have OC:st.2.2∈NN:=hok.sub T (dw hT) _ Kh;have l3:o.length<=12:=dU j.len hok.nn;refine jy hd rfl ?_;rw[aA rfl,xA hk];refine cN (λJ=>?_) (λJ=>?_)
   .obtain⟨a1,na,RM,ga,ha⟩:=hv _ G
    refine fH hd rfl ga ?_;have hpl:=j.pl _ (r_ G);simp at hpl;refine⟨show 1<=sizeLine by omega,iJ (getElem?_push ha) aG (by simp;omega) ?_⟩;have RH:kvs.length=o.length:=by
     have:=bV List.length hk;simpa[aZ] using this
    refine yh (getElem?_push (getElem?_push hd)) rfl (by omega) ?_;have W:=getElem?_push (T:=[C.lst ((dM o st.2.1).map av++[av st])]) (getElem?_push (T:=[C.lst [av st]]) V);have hd2:=getElem?_push (T:=[C.lst ((dM o st.2.1).map av++[av st])]) (getElem?_push (T:=[C.lst [av st]]) hd);have t:=fC (i:=A.length+1) (c:=C.dct (cG kvs (Sum.inr st.2.2) (D.ref (U++[C.lst [av st]]).length))) (by omega) W;refine⟨gZ t,kH t (by simp[aZ];omega) ?_⟩;have RN:A1.length<=q2:=l2;have nq:A.length+2≠q2:=by omega
    have Mr:A.length+1≠q2:=by omega
    have L:cC o st=o++[(st.2.2,dM o st.2.1++[st])]:=by unfold cC;rw[ay J]
    have ek:aZ (cC o st)=aZ o++[st.2.2]:=by rw[L];simp[aZ]
    refine hN _ _ ⟨l++[st],b,_,rfl,by simpa using g,rfl,?_,?_,?_,?_⟩
    .rw[f]
     refine⟨_,fC (by omega) (p5 hd2),?_,?_,λm hm=>?_⟩
     .rw[ek,cX]
      exact p5 t
     .rw[ek]
      exact Lr hk J
     .rw[ek] at hm
      have la:(U++[C.lst [av st]]).length=U.length+1:=by simp
      have LQ:=bU V;rcases ck.mp hm with hm|hm
      .obtain⟨a,Y,Z,JQ,H⟩:=hv m hm
       have hne:¬(Sum.inr st.2.2:Key)=Sum.inr m:=λz=>J (by rw[Sum.inr.inj z];exact hm);refine⟨a,Y,Z,by rw[rG,ay hne];exact JQ,?_⟩;rw[L,CF hm];have hd':A.length+1≠a:=λz=>by rw[<-z,hd] at H;cases H
       exact fC (Ne.symm Y) (fC hd' (getElem?_push (getElem?_push H)))
      .have hm:m=st.2.2:=by simpa using hm
       subst hm;refine⟨(U++[C.lst [av st]]).length,by omega,by omega,by rw[rG,aA rfl],?_⟩;rw[L,LI J,cX];exact fC (by omega) (fC (by omega) aG)
    .rw[f]
     exact j.add G OC
    .exact fC nq (fC Mr (getElem?_push (getElem?_push S)))
    .exact((((g3.trans Gr.push).trans Gr.push).set (by omega)).set (by omega))
   .have L:cC o st=o:=by unfold cC;rw[aA J]
    refine hN _ _ ⟨l++[st],b,_,rfl,by simpa using g,rfl,?_,?_,S,g3⟩
    .rw[f,L];exact u
    .rw[f,L];exact j
  .rintro τ U ⟨l,b,x,e,g,rfl,u,j,S,g3⟩
   cases b with
   |cons _ _=>cases e
   |nil=>
   have g:l=fh s p.1:=by simpa using g
   subst g;refine⟨_,x,by rfl,?_,u,j,?_,g3⟩
   .obtain⟨X,e⟩:=wI (fh s p.1) Q
    rw[e,dI];omega
   .rw[<-hb,show 14 - i=(14 - (i+1))+1 by omega,vH M]
 .rw[O] at c
  have c:Q.length<=i:=by omega
  rw[GW c] at hb;rw[<-hb] at q;refine q A1 _ g1 ⟨by omega,N,hd0,hk0,λm hm=>?_⟩;obtain⟨a,_,z,x,y⟩:=hv0 m hm;exact⟨a,z,x,y⟩
end My
namespace DP
open L2 MA
theorem IM{A:Ar}{p:Nat}{xs:List D}{R:DK}(h:A[p]?=some (.lst xs))(c:gu xs=true)(hl:canLayAll0 (bX xs)=true)(k:R (.bl (decide (xs=[]))) (A++[.lst []])):gk false (.ref p) (.ref A.length) (A++[.lst []]) R:=by
 unfold gk;have b:c_ (A++[.lst []]) (.ref p)=.list (bX xs):=by unfold c_;simp only[getElem?_push h]
 have a:c_ (A++[.lst []]) (.ref A.length)=.list []:=by unfold c_;simp only[aG];rfl
 refine⟨?_,?_,?_,?_,?_,?_⟩
 .unfold iM;simp only[getElem?_push h];exact c
 .unfold iM;simp only[aG];rfl
 .rw[b];simpa[canLay0] using hl
 .rw[a];simp[canLay0,canLayAll0]
 .rw[a];simp[PyData.depth,depthAll];omega
 .rw[b,a]
  have e:PyData.eqv (.list (bX xs)) (.list [])=decide (xs=[]):=by cases xs<;>simp[bX,PyData.eqv,eqvAll]
  rw[ay (by decide),e];exact k
theorem JX{A a:Ar}{r:Nat}{o:Obj}{kvs:List (Key×D)}(h:A[r]?=some (.dct kvs))(g:Gr (A.set r (.bx o kvs)) a):a[r]?=some (.bx o kvs)/\Gr A (a.set r (.dct kvs)):=by
 obtain⟨T,rfl⟩:=g;have hl:=(bR.mp h).1;refine⟨by rw[gz (by simpa using hl),fu hl],T,?_⟩;rw[ze _ _ (by simpa using hl),List.set_set];congr 1;apply ext_getElem?;intro i;by_cases e:i=r
 .subst e;rw[fu hl,h]
 .rw[fm (Ne.symm e)]
def ff(Gs:List aW):List Str:=Gs.flatMap aZ
def c9(Ts:List Tb)(Gs:List aW)(n:Str):List aW:=if n∈ff Gs then Gs else Gs++[ic Ts n]
def eF(Ts:List Tb):List aW:=(Ts.flatMap af).foldl (c9 Ts) []
def eV(lo:Nat)(A:Ar):List Nat->List aW->Prop
 |[],[]=>True
 |q::qs,P::Ps=>fZ lo A q P/\eV lo A qs Ps
 |_,_=>False
theorem eV.jC{lo a:Nat}{A B:Ar}(f:∀q P,fZ lo A q P->fZ a B q P):∀{b:List Nat} {Ps:List aW},eV lo A b Ps->eV a B b Ps
 |[],[],_=>trivial
 |q::b,P::Ps,h=>⟨f q P h.1,eV.jC f h.2⟩
 |[],_::_,h=>h.elim
 |_::_,[],h=>h.elim
theorem eV.snoc{lo:Nat}{A:Ar}{q:Nat}{P:aW}(b:fZ lo A q P):∀{a:List Nat} {Ps:List aW},eV lo A a Ps->eV lo A (a++[q]) (Ps++[P])
 |[],[],_=>⟨b,trivial⟩
 |_::a,_::Ps,h=>⟨h.1,eV.snoc b h.2⟩
 |[],_::_,h=>h.elim
 |_::_,[],h=>h.elim
theorem eV.len{lo:Nat}{A:Ar}:∀{a:List Nat} {Ps:List aW},eV lo A a Ps->a.length=Ps.length
 |[],[],_=>rfl
 |q::a,P::Ps,h=>by simp[eV.len h.2]
 |[],_::_,h=>h.elim
 |_::_,[],h=>h.elim
def GA(lo:Nat)(A:Ar)(q:Nat)(Gs:List aW):Prop:=lo<=q/\∃gs,A[q]?=some (.lst (gs.map D.ref))/\eV lo A gs Gs
def jO(b:Nat)(NN:List Str)(A:Ar)(Gs:List aW):Prop:=∃(gs:List Nat) (kvs:List (Key×D)) (ns:List Str),A[b]?=some (.lst (gs.map D.ref))/\eV (b+2) A gs Gs/\A[b+1]?=some (.dct kvs)/\kvs.map (·.1)=ns.map Sum.inr/\ns.Nodup/\(∀n,n∈ns↔n∈ff Gs)/\∀n∈ns,n∈NN
theorem jO.set{b t:Nat}{a:List Str}{A:Ar}{Gs:List aW}{c:C}(h:jO b a A Gs)(f:t<b):jO b a (A.set t c) Gs:=by
 obtain⟨gs,kvs,ns,h1,h2,d,e⟩:=h;exact⟨gs,kvs,ns,fC (by omega) h1,h2.jC λq P z=>z.set (by omega),fC (by omega) d,e⟩
theorem Lw{kvs:List (Key×D)}{ns:List Str}(h:kvs.map (·.1)=ns.map Sum.inr):∃ps:List (Str×D),kvs=ps.map (λp=>((Sum.inr p.1:Key),p.2))/\ps.map (·.1)=ns:=by
 induction kvs generalizing ns with
 |nil=>
  cases ns with
  |nil=>exact⟨[],rfl,rfl⟩
  |cons _ _=>cases h
 |cons p kvs a=>
  cases ns with
  |nil=>cases h
  |cons m ns=>
   rw[cB,cB,List.cons.injEq] at h;obtain⟨ps,b,c⟩:=a h.2;exact⟨(m,p.2)::ps,by rw[cB,<-b,<-h.1],by rw[cB,c]⟩
theorem CV{kvs b:List (Key×D)}{ns c:List Str}(h1:kvs.map (·.1)=ns.map Sum.inr)(h2:b.map (·.1)=c.map Sum.inr)(d:ns.Nodup):∃a:List Str,(je kvs b).map (·.1)=a.map Sum.inr/\a.Nodup/\∀n,n∈a↔n∈ns\/n∈c:=by
 obtain⟨ps,e,f⟩:=Lw h2;obtain⟨a,k1,k2,k3⟩:=BF ps kvs ns h1 d;refine⟨a,?_,k2,λn=>by rw[k3,f]⟩;unfold je;rw[e];exact k1
theorem Ae{a:List Tb}{b:List Str}(hok:gh a b):∀(f i:Nat) (P:aW),gi P b->gi (eW a f i P) b/\∃X,eW a f i P=P++X
 |0,i,P,h=>⟨h,[],by simp[eW]⟩
 |f+1,i,P,h=>by
  cases e:P[i]? with
  |none=>
   have:eW a (f+1) i P=P:=by
    show(match P[i]? with|some p=>eW a f (i+1) ((fh a p.1).foldl cC P)|none=>P)=_;rw[e]
   rw[this];exact⟨h,[],by simp⟩
  |some p=>
   rw[vH e];have key:∀(ss:List aN) (Q:aW),(∀s∈ss,s∈fh a p.1)->gi Q b->p.1∈aZ Q->gi (ss.foldl cC Q) b:=by
    intro ss;induction ss with
    |nil=>intro Q _ h _;exact h
    |cons s ss g=>
     intro Q d j c;obtain⟨T,k,_,l,m⟩:=xS.mp (d s (cR ..));refine g _ (λx n=>d x (cj _ n)) (j.add (by rw[l];exact c) (hok.sub T (dw k) _ m)) ?_;exact(vz Q s p.1).mpr (.inl c)
   have c:p.1∈aZ P:=gw (dw e);obtain⟨h1,X,h2⟩:=Ae hok f (i+1) _ (key (fh a p.1) P (λs h=>h) h c);obtain⟨Y,o⟩:=wI (fh a p.1) P;exact⟨h1,Y++X,by rw[h2,o,append_assoc]⟩
theorem tR{a:List Tb}{b:List Str}(hok:gh a b){n:Str}(c:n∈b):gi (ic a n) b/\n∈aZ (ic a n)/\dM (ic a n) n=[]:=by
 have h0:gi [(n,[])] b:=⟨by simp[aZ],λm d=>by
  have:m=n:=by simpa[aZ] using d
  rw[this];exact c,λp e=>by
  have:p=(n,[]):=by simpa using e
  rw[this];simp⟩
 obtain⟨h1,X,h2⟩:=Ae hok 14 0 _ h0;have f:n∈aZ [(n,([]:List aN))]:=by simp[aZ]
 refine⟨h1,?_,?_⟩
 .show n∈aZ (eW a 14 0 [(n,[])])
  rw[h2];simp[aZ]
 .show dM (eW a 14 0 [(n,[])]) n=[]
  rw[h2,CF f];simp[dM]
theorem JY{a:List Tb}{b:List Str}(hok:gh a b){Gs:List aW}{n:Str}(c:n∈b):n∈ff (c9 a Gs n)/\∀m∈ff Gs,m∈ff (c9 a Gs n):=by
 unfold c9;split
 .rename_i h
  exact⟨h,λ_ h=>h⟩
 .unfold ff
  rw[uS];refine⟨gP _ ?_,λm d=>mC _ d⟩;simp;exact(tR hok c).2.1
theorem BV{a:List Tb}{b:List Str}(hok:gh a b):∀(ns:List Str) (Gs:List aW),(∀n∈ns,n∈b)->(∀n∈ns,n∈ff (ns.foldl (c9 a) Gs))/\∀m∈ff Gs,m∈ff (ns.foldl (c9 a) Gs)
 |[],Gs,_=>⟨(λ_ h=>by cases h),λ_ h=>h⟩
 |n::ns,Gs,h=>by
  obtain⟨k1,k2⟩:=JY hok (Gs:=Gs) (h n (cR ..));obtain⟨d,c⟩:=BV hok ns (c9 a Gs n) λm hm=>h m (cj _ hm);refine⟨λm hm=>?_,λm hm=>c m (k2 m hm)⟩;rcases cu.mp hm with rfl|hm
  .exact c _ k1
  .exact d m hm
theorem BS{a:List Tb}{b:List Str}(hok:gh a b){T:Tb}(c:T∈a){n:Str}(d:n∈af T):n∈ff (eF a):=by
 refine(BV hok (a.flatMap af) [] λm e=>?_).1 n (qj.mpr ⟨T,c,d⟩);obtain⟨f,h1,h2⟩:=qj.mp e;exact hok.sub f h1 m h2
theorem wQ(a:List Tb):∀(ns:List Str) (Gs:List aW),(ns.foldl (c9 a) Gs).length<=Gs.length+ns.length
 |[],Gs=>aI _
 |n::ns,Gs=>by
  have h:=wQ a ns (c9 a Gs n);have h2:(c9 a Gs n).length<=Gs.length+1:=by
   unfold c9;split
   .omega
   .simp
  rw[iA,jl];omega
theorem CY:∀(a:List Tb),(∀T∈a,T.length<=32)->(a.flatMap af).length<=32*a.length
 |[],_=>by simp
 |T::a,h=>by
  have h1:=CY a λq b=>h q (cj _ b);have h2:=h T (cR ..);have e:(af T).length=T.length:=by simp[af]
  rw[List.flatMap_cons,dI,jl];omega
def zH:Ct:=λds A R _=>∃r Ts NN,ds=[.ref r]/\gQ A r Ts/\gh Ts NN/\∀A' q,Gr A A'->GA A.length A' q (eF Ts)->R (.ref q) A'
theorem TabsAt.fz{A:Ar}{t:Nat}{o:Obj}{T0:Tb}(h0:A[t]?=some (.dct (aU T0))):∀{ts:List Nat} {a:List Tb},TabsAt A ts a->TabsAt (A.set t (.bx o (aU T0))) ts a
 |[],[],_=>trivial
 |q::c,T::a,h=>by
  refine⟨?_,TabsAt.fz h0 h.2⟩;by_cases e:t=q
  .subst e
   rcases h.1 with h'|⟨o',h'⟩
   .rw[h0] at h'
    have b:aU T0=aU T:=by
     have h':=Option.some.inj h';injection h'
    exact .inr ⟨o,by rw[fu (bU h0),b]⟩
   .rw[h0] at h'
    cases h'
  .rcases h.1 with h'|⟨o',h'⟩
   .exact .inl (fC e h')
   .exact .inr ⟨o',fC e h'⟩
 |[],_::_,h=>h.elim
 |_::_,[],h=>h.elim
end DP
namespace My
open L2 DP MA
theorem Jf(T:TopD K mg "groups" ED s9)(d:aD P w K mg base 2 "paths_from" tM (aB mg 2 vq)):aD P w K mg base 3 "groups" s9 (aB mg 1 zH):=by
 refine jv T E1 rfl (by decide) λN RE f cdv B outer s H E hr hR hx ds A R h hl=>?_;have hu:=hr.units;have nd:=E1.nd;refine⟨_,(aE (dS 1 nd (bK ah))
  (aE (dS 2 nd vW)
  (aE (eB dO rfl (d9 (vr 0)) (dG 3 nd) (aH (IA (eB dO rfl (vY (vr 3)) (dG 4 nd) (aH (cz (nF hu (vr 4) (vr 2)) (aE (dS 5 nd (dL d hr hx (aa (vr 0) (aa (vr 4) ah))))
  (aE (gm (AY PySem.F.plainAttrs_dict slot_dict_update PySem.F.type_dict_update CW AR (vr 2) (aa (vr 5) ah)))
  (aH (gm (gX iz lW l9 j5 kN (vr 1) (aa (vr 5) ah)))))) cE))))))
  (aH (aT (vr 1)))))),?_⟩
 obtain⟨r,b,M,rfl,hB,hok,q⟩:=h;obtain⟨ts,h1,h2⟩:=id hB;have hz:(1000:Nat)<=sizeLine:=by decide
 have e1:(A++[C.lst []]).length=A.length+1:=by simp
 have g0:Gr A (A++[C.lst []]++[C.dct []]):=Gr.push.trans Gr.push;refine⟨cV _,eO (g0.get h1) ?_⟩;rw[e1];have wX:jO A.length M (A++[C.lst []]++[C.dct []]) []:=⟨[],[],[],getElem?_push aG,trivial,by rw[<-e1];exact aG,rfl,nodup_nil,λn=>by simp[ff],λn h=>by cases h⟩;refine d_ (λrest τ A'=>∃(i:Nat) (x y z:Option D),i<=ts.length/\rest=(ts.map D.ref).drop i/\τ=[some (.ref r),some (.ref A.length),some (.ref (A.length+1)),x,y,z]/\jO A.length M A' (((b.take i).flatMap af).foldl (c9 b) [])/\Gr A A') ?_ ?_ ?_ _ _ _ ⟨0,none,none,none,cV _,rfl,rfl,wX,g0⟩
 .rintro rest τ A' ⟨i,x,y,z,_,_,_,_,g⟩
  exact g.get h1
 .rintro v rest τ A1 ⟨i,x,y,z,hi,e,rfl,Z,g⟩ Nx hN
  by_cases hlt:i<ts.length
  .obtain⟨t,ht⟩:∃t,ts[i]?=some t:=⟨ts[i],bO hlt⟩
   obtain⟨T0,hT,hA⟩:=h2.get ht;have wR:=hA.gr g;have O:i<(ts.map D.ref).length:=by rw[aR];exact hlt
   have ev:(ts.map D.ref)[i]?=some (.ref t):=by rw[bH,ht];rfl
   rw[kB O] at e;rw[bO O] at ev;have ev:=Option.some.inj ev;rw[ev] at e;cases e;have Ck:T0∈b:=dw hT;have tl:t<A.length:=by
    rcases hA with h'|⟨_,h'⟩
    .exact bU h'
    .exact bU h'
   have wu:(b.take (i+1)).flatMap af=(b.take i).flatMap af++af T0:=by
    rw[take_succ,hT,uS];simp
   obtain⟨Q,U⟩:∃G,G=((b.take i).flatMap af).foldl (c9 b) []:=⟨_,rfl⟩;have S:((b.take (i+1)).flatMap af).foldl (c9 b) []=(af T0).foldl (c9 b) Q:=by rw[wu,l_,U]
   rw[<-U] at Z;have em:((aU T0).map λp=>keyOf p.1)=(af T0).map D.str:=Cy T0;have go:∀(o:Obj) (V B1:Ar) (Dn:jN),V.length=A.length->V[t]?=some (.bx o (aU T0))->gQ V r b->Gr V B1->jO A.length M B1 Q->(∀(B2:Ar) (y z:Option D),jO A.length M B2 ((af T0).foldl (c9 b) Q)->Gr V B2->Dn.nx [some (.ref r),some (.ref A.length),some (.ref (A.length+1)),some (.ref t),y,z] B2)->
     Ea (pe (dh 3)) (gN 4) (nB (f7 (dm (inD true) (dh 4) (dh 2))) (pZ (lI 5 (oQ 2 vq RE (aO (dh 0) (aO (dh 4) bT)))) (pZ (pY (AI yT (dh 2) (aO (dh 5) bT))) (pY (qY qR (dh 1) (aO (dh 5) bT))))) Ec) Dn [some (.ref r),some (.ref A.length),some (.ref (A.length+1)),some (.ref t),y,z] B1:=λo V B1 Dn Rq hf J2 g1 Ka fin=>by
    refine Cq (g1.get hf) ?_;rw[em];refine d_ (λrest τ B'=>∃(l a:List Str) (y z:Option D),rest=a.map D.str/\l++a=af T0/\τ=[some (.ref r),some (.ref A.length),some (.ref (A.length+1)),some (.ref t),y,z]/\jO A.length M B' (l.foldl (c9 b) Q)/\Gr V B') ?_ ?_ ?_ _ _ _ ⟨[],af T0,y,z,rfl,rfl,rfl,Ka,g1⟩
    .rintro rest τ B' ⟨_,_,_,_,_,_,_,_,g'⟩
     exact g'.get hf
    .rintro v rest τ B' ⟨l,a,y,z,e,k,rfl,L,g'⟩ Ri B4
     cases a with
     |nil=>cases e
     |cons n a=>
     cases e;have Km:n∈af T0:=by rw[<-k];simp
     have Ce:n∈M:=hok.sub T0 Ck n Km;have u:(l++[n]).foldl (c9 b) Q=c9 b (l.foldl (c9 b) Q) n:=by rw[l_];rfl
     generalize J5:l.foldl (c9 b) Q=G3 at*
     obtain⟨gs,kvs,ns,k1,k2,k3,k4,k5,k6,k7⟩:=id L;refine jy k3 rfl ?_;rw[aA rfl,xA k4];refine cN (λc=>?_) (λc=>?_)
     .have W:n∉ff G3:=λz=>c ((k6 n).mpr z)
      obtain⟨Dv,_,_⟩:=tR hok Ce;refine⟨rfl,r,n,b,M,rfl,J2.gr g',hok,Ce,λB2 q2 J h2=>?_⟩;obtain⟨lq,I,m1,m2,m3⟩:=id h2;have lB:=bU k3;have ln:ns.length<=12:=dU (ni ns M k5 k7) hok.nn;have LF:kvs.length=ns.length:=by
       have:=bV List.length k4;simpa using this
      have LG:I.length=(ic b n).length:=by
       have:=bV List.length m2;simpa[aZ] using this
      have lP:=Dv.len;have Mi:=hok.nn;refine⟨Co (J.get k3),Fy (J.get k3) m1 (by omega) (by omega) ?_⟩;have hb:=fC (i:=A.length+1) (j:=A.length) (c:=C.dct (je kvs I)) (by omega) (J.get k1);have xG:=k2.len;refine⟨gZ hb,kH hb ?_ ?_⟩
      .rw[aR,xG]
       have l1:=wQ b l Q;have l2:=wQ b ((b.take i).flatMap af) [];have l3:=CY (b.take i) λT' jw=>(hok.tok T' (lO jw)).len;have l4:l.length<=32:=by
        have h1:=bV List.length k;have h2:=(hok.tok T0 Ck).len;have e:(af T0).length=T0.length:=by simp[af]
        rw[dI] at h1;omega
       rw[jM] at l3;have h7:=hok.len;rw[J5] at l1;rw[<-U] at l2;rw[length_nil,zero_add] at l2;omega
      obtain⟨ns',j1,j2,j3⟩:=CV k4 m2 k5;have eg:c9 b G3 n=G3++[ic b n]:=by unfold c9;rw[ay W]
      refine B4 _ _ ⟨l++[n],a,_,_,rfl,by simpa using k,rfl,?_,?_⟩
      .rw[u,eg]
       refine⟨gs++[q2],_,ns',?_,?_,fC (by omega) (p5 (J.get k3)),j1,j2,λm=>?_,λm hm=>?_⟩
       .rw[cX]
        exact p5 hb
       .refine eV.snoc ?_ (k2.jC λq P z=>((z.gr J).set (by omega)).set (by omega))
        exact((h2.lo (by omega)).set (by omega)).set (by omega)
       .rw[j3,k6]
        simp[ff]
       .rcases (j3 m).mp hm with h'|h'
        .exact k7 m h'
        .exact Dv.sub m h'
      .exact(((g'.trans J).set (by omega)).set (by omega))
     .have W:n∈ff G3:=(k6 n).mp c
      have eg:c9 b G3 n=G3:=by unfold c9;rw[aA W]
      refine B4 _ _ ⟨l++[n],a,_,_,rfl,by simpa using k,rfl,?_,g'⟩;rw[u,eg];exact L
    .rintro τ B' ⟨l,a,y,z,e,k,rfl,L,g'⟩
     cases a with
     |cons _ _=>cases e
     |nil=>
     have k:l=af T0:=by simpa using k
     subst k;exact fin B' y z L g'
   rcases hA with hd|⟨o,hd⟩
   .refine .inl ⟨t,aU T0,g.get hd,λo=>?_⟩
    have Rn:A1.set t (.bx o (aU T0))=A1.set t (.bx o (aU T0)):=rfl;have J1:Gr (A.set t (.bx o (aU T0))) (A1.set t (.bx o (aU T0))):=by
     obtain⟨X,rfl⟩:=g;exact⟨X,by rw[ze _ _ tl]⟩
    refine go o (A.set t (.bx o (aU T0))) _ _ (by simp) (fu tl) ⟨ts,?_,h2.fz hd⟩ J1 (Z.set tl) λB2 y z Y J=>?_
    .have:t≠r:=λz=>by rw[z,h1] at hd;cases hd
     exact fC this h1
    .obtain⟨u1,u2⟩:=JX hd J
     refine⟨aU T0,u1,hN _ _ ⟨i+1,_,_,_,by omega,rfl,rfl,?_,u2⟩⟩;rw[S];exact Y.set tl
   .refine .inr (go o A _ _ rfl hd hB g Z λB2 y z Y J=>hN _ _ ⟨i+1,_,_,_,by omega,rfl,rfl,?_,J⟩)
    rw[S];exact Y
  .rw[qq (by rw[aR];omega)] at e
   cases e
 .rintro τ A1 ⟨i,x,y,z,hi,e,rfl,Z,g⟩
  have hi:i=ts.length:=by
   have:=bV List.length e;simp at this;omega
  have pI:=h2.len;rw[hi,pI,take_length] at Z;obtain⟨gs,kvs,ns,k1,k2,_⟩:=Z;exact q _ _ g ⟨aI _,gs,k1,k2.jC λq P z=>z.lo (by omega)⟩
end My
namespace DP
open L2 MA
def bwd(ss:List aN):List aN:=ss.reverse.map λs=>(s.1,s.2.2,s.2.1)
noncomputable def uc(Ts:List Tb)(i:Nat)(n:Str):Rat:=match Ts[i]? with
 |some T=>au T n
 |none=>0
noncomputable def dQ(Ts:List Tb)(s:aN):Rat:=uc Ts s.1 s.2.2/uc Ts s.1 s.2.1
noncomputable def eN(Ts:List Tb)(ss:List aN):Rat:=ss.foldl (λx s=>x*dQ Ts s) 1
def cS(Ts:List Tb)(s:aN):Prop:=∃T,Ts[s.1]?=some T/\s.2.1∈af T/\s.2.2∈af T
theorem iu{a:List Tb}{i:Nat}{T:Tb}(h:a[i]?=some T)(n:Str):uc a i n=au T n:=by
 unfold uc;rw[h]
theorem t9{a b:Int}(d:0<a)(c:0<b):(rf ((a:Rat)/(b:Rat))).1<=a/\(rf ((a:Rat)/(b:Rat))).2<=b:=by
 rw[<-t_ c];exact⟨ediv_le_self _ (eK d),ediv_le_self _ (eK c)⟩
theorem Ov{x y:Rat}(a:0<x)(b:0<y):(rf (x*y)).1<=(rf x).1*(rf y).1:=by
 rw[<-D4];exact(t9 (cJ (cT a) (cT b)) (cJ (cP x) (cP y))).1
theorem rj{x y:Rat}(b:0<x)(a:0<y):x/y=(((rf x).1*(rf y).2:Int):Rat)/(((rf x).2*(rf y).1:Int):Rat):=by
 have h1:=iY (ji (cP x));have h2:=iY (ji (cP y));have c:=iY (ji (cT a));conv=>lhs;rw[<-gJ x,<-gJ y]
 rw[jj,jj];grind
theorem E8{a:List Tb}{s:aN}(f:∀T∈a,f6 T)(h:cS a s):0<dQ a s/\(rf (dQ a s)).1<=4000000000000/\(rf (dQ a s)).2<=4000000000000:=by
 obtain⟨T,h1,h2,g⟩:=h;have d:=f T (dw h1);have f2:=p7 d h2;have b:=p7 d g;unfold dQ;rw[iu h1,iu h1];have p2:=cT f2.pos;have i:=cT b.pos;have e:=cP (au T s.2.1);have j:=cP (au T s.2.2);have c:0<au T s.2.2/au T s.2.1:=by
  rw[Rat.div_def];exact lY b.pos (Rat.inv_pos.mpr f2.pos)
 refine⟨c,?_⟩;rw[rj b.pos f2.pos];obtain⟨k1,k2⟩:=t9 (cJ i e) (cJ j p2);have k:(rf (au T s.2.2)).1*(rf (au T s.2.1)).2<=2000000*2000000:=dc b.num f2.den (eK e) (by decide);have l:(rf (au T s.2.2)).2*(rf (au T s.2.1)).1<=2000000*2000000:=dc b.den f2.num (eK p2) (by decide);exact⟨by omega,by omega⟩
theorem AA{a:List Tb}(b:∀T∈a,f6 T):∀(ss:List aN) (x:Rat) (k:Nat),(∀s∈ss,cS a s)->0<x->(rf x).1<=(4000000000000:Int) ^ k->0<ss.foldl (λx s=>x*dQ a s) x/\(rf (ss.foldl (λx s=>x*dQ a s) x)).1<=(4000000000000:Int) ^ (k+ss.length)
 |[],x,k,_,h1,h2=>⟨h1,h2⟩
 |s::ss,x,k,c,h1,h2=>by
  obtain⟨p,q,_⟩:=E8 b (c s (cR ..));have d:(rf (x*dQ a s)).1<=(4000000000000:Int) ^ (k+1):=by
   refine fj (Ov h1 p) ?_;rw[jI];exact dc h2 q (eK (cT p)) (lR (by decide))
  have:=AA b ss (x*dQ a s) (k+1) (λy e=>c y (cj _ e)) (lY h1 p) d;rw[iA,jl,show k+(ss.length+1)=k+1+ss.length by omega];exact this
theorem Az{a:List Tb}(b:∀T∈a,f6 T){ss:List aN}(c:∀s∈ss,cS a s):0<eN a ss/\(rf (eN a ss)).1<=(4000000000000:Int) ^ ss.length:=by
 have:=AA b ss 1 0 c (by decide) (by rw[yt];decide);rw[zero_add] at this;exact this
theorem qW(a:List Tb)(ss:List aN)(s:aN):eN a (ss++[s])=eN a ss*dQ a s:=by
 unfold eN;rw[l_];rfl
theorem Cr{A:Ar}{t:Nat}{T:Tb}{n:Str}{R:DK}(h:TabAt A t T)(a:n∈af T)(k:R (fq (au T n)) A):jA t (.str n) A R:=by
 rcases h with h|⟨o,h⟩
 .exact fH h rfl (gH a) k
 .exact Lb h rfl (gH a) k
def zA:Ct:=λds A R _=>∃q ss,ds=[.ref q]/\A[q]?=some (.lst (ss.map av))/\ss.length<=100/\∀A' p,Gr A A'->A'[p]?=some (.lst ((bwd ss).map av))->A.length<=p->R (.ref p) A'
def vn:Ct:=λds A R _=>∃r q Ts ss,ds=[.ref r,.ref q]/\gQ A r Ts/\(∀T∈Ts,f6 T)/\A[q]?=some (.lst (ss.map av))/\(∀s∈ss,cS Ts s)/\ss.length<=45/\∀A',Gr A A'->R (fq (eN Ts ss)) A'
theorem NK{c k:Nat}(h:c ^ (k+1)<2 ^ 2000):(c:Int) ^ k*(c:Int)<2 ^ 2000:=by
 have e:(c:Int) ^ k*(c:Int)=((c ^ (k+1):Nat):Int):=by rw[natCast_pow,jI]
 rw[e];have h2:((2 ^ 2000:Nat):Int)=(2:Int) ^ 2000:=natCast_pow 2 2000;rw[<-h2];exact Int.ofNat_lt.mpr h
theorem ye{k:Nat}(h:k<=45):(4000000000000:Int) ^ k*4000000000000<2 ^ 2000:=
 NK (c:=4000000000000) (Nat.lt_of_le_of_lt (gy (by decide) (show k+1<=46 by omega)) (by decide+kernel))
noncomputable def lu(T:Tb):Str:=open Classical in if h:∃m,m∈af T/\∀n∈af T,¬n.cps.toList<m.cps.toList then Classical.choose h else default
theorem CU{T:Tb}{m:Str}(h1:m∈af T)(h2:∀n∈af T,¬n.cps.toList<m.cps.toList):lu T=m:=by
 have h:∃m,m∈af T/\∀n∈af T,¬n.cps.toList<m.cps.toList:=⟨m,h1,h2⟩;have e:lu T=Classical.choose h:=by unfold lu;rw[dif_pos h]
 obtain⟨k1,k2⟩:=Classical.choose_spec h;rw[e];generalize Classical.choose h=x at k1 k2;have a:=h2 x k1;have b:=k2 m h1;have c:x.cps.toList=m.cps.toList:=List.le_antisymm (not_lt.mp b) (not_lt.mp a);obtain⟨⟨x⟩⟩:=x;obtain⟨⟨m⟩⟩:=m;simp at c;rw[c]
noncomputable def gV(p:Tb×Nat):List aN:=(af p.1).map (λo=>(p.2,lu p.1,o))
noncomputable def jr(Ts:List Tb):List aN:=Ts.zipIdx.flatMap gV
def zE:Ct:=λds A R _=>∃r Ts,ds=[.ref r]/\gQ A r Ts/\Ts.length<=7/\(∀T∈Ts,f6 T)/\∀A' q,Gr A A'->A'[q]?=some (.lst ((jr Ts).map av))->A.length<=q->R (.ref q) A'
theorem Av:∀(l:List (Tb×Nat)),(∀p∈l,p.1.length<=32)->(l.flatMap gV).length<=32*l.length
 |[],_=>by simp
 |p::l,h=>by
  have h1:=Av l λq a=>h q (cj _ a);have h2:(gV p).length<=32:=by
   unfold gV;rw[aR];have:=h p (cR ..);simpa[af] using this
  rw[List.flatMap_cons,dI,jl];omega
end DP
namespace My
open L2 DP MA
theorem I0(T:TopD K mg "backward" Eu sU)(g:mg "reversed"=none):aD P w K mg base 1 "backward" sU (aB mg 1 zA):=by
 refine bW T OY λk l m n nd=>⟨_,(aH (aT (i8 (some 3) (own:=["place","one","other"]) (frees:=[]) (ix:=[]) rfl (Il g (aa (vr 0) ah)) (λc=>(nv rfl (gp (pG 0 (show(["place","one","other"]:List Str).Nodup by decide+kernel)) (gp (pG 1 (show(["place","one","other"]:List Str).Nodup by decide+kernel)) (gp (pG 2 (show(["place","one","other"]:List Str).Nodup by decide+kernel)) ny))))) (λc=>(cg (aa (vr 0) (aa (vr 2) (aa (vr 1) ah)))))))),λds A R h hl=>?_⟩;obtain⟨o,ss,rfl,h1,i,q⟩:=h;have hz:(1000:Nat)<=sizeLine:=by decide
 refine rT h1 ?_;refine i7 (f:=λd=>match d with|.tup [a,b,c]=>.tup [a,c,b]|d=>d) h1 _ _ (λd hd=>?_) (by simp;omega) ?_
 .rw[mem_reverse] at hd
  obtain⟨st,_,rfl⟩:=br.mp hd;exact⟨[.int ((st.1:Nat):Int),.str st.2.1,.str st.2.2],rfl,λQ j=>⟨show 3<=sizeLine by omega,j⟩⟩
 have e:((ss.map av).reverse.map λd=>match d with|.tup [a,b,c]=>D.tup [a,c,b]|d=>d)=(bwd ss).map av:=by
  unfold bwd;rw[<-List.map_reverse,cY,cY];rfl
 rw[gx,e];exact q _ _ Gr.push aG (aI _)
theorem Jb(T:TopD K mg "comes_to" EA pL)(k:aD P w K mg base 3 "product" pO (aB mg 2 oB))(i:aD P w K mg base 3 "quotient" tN (aB mg 2 (λds A R E=>∃a b c d:Int,ds=[.tup [.int a,.int b],.tup [.int c,.int d]]/\oB [.tup [.int a,.int b],.tup [.int d,.int c]] A R E))):aD P w K mg base 4 "comes_to" pL (aB mg 2 vn):=by
 refine bW T O3 λN hR O H nd=>⟨_,(aE (dS 2 nd (cg (aa ao (aa ao ah))))
  (aE (eB dO rfl (d9 (vr 1)) (mR rfl (f9 (dG 3 nd) (f9 (dG 4 nd) (f9 (dG 5 nd) mS)))) (aH (dS 2 nd (dL k N O (aa (vr 2) (aa (dL i N O (aa (dX H (dX H (vr 0) (vr 3)) (vr 5)) (aa (dX H (dX H (vr 0) (vr 3)) (vr 4)) ah))) ah))))))
  (aH (aT (vr 2))))),λds A R h hl=>?_⟩
 obtain⟨r,q0,I,ss,rfl,hB,J,h1,Q,S,q⟩:=h;obtain⟨ts,n,o⟩:=hB;have hz:(1000:Nat)<=sizeLine:=by decide
 refine⟨show 2<=sizeLine by omega,eO h1 ?_⟩;refine d_ (λrest τ A'=>∃(l f:List aN) (x y z:Option D),rest=f.map av/\l++f=ss/\τ=[some (.ref r),some (.ref q0),some (fq (eN I l)),x,y,z]/\Gr A A') ?_ ?_ ?_ _ _ _ ⟨[],ss,none,none,none,rfl,rfl,rfl,Gr.refl⟩
 .rintro rest τ A' ⟨_,_,_,_,_,_,_,_,g⟩
  exact g.get h1
 .rintro v rest τ A1 ⟨l,f,x,y,z,e,j,rfl,g⟩ Nx hN
  cases f with
  |nil=>cases e
  |cons st f=>
  cases e;have p:=Q st (by rw[<-j];simp);have L:∀s∈l,cS I s:=λs h=>Q s (by rw[<-j];simp[h]);obtain⟨c1,c2⟩:=Az J L;obtain⟨U,d2,d3⟩:=E8 J p;have ldn:l.length<=45:=by
   have:=bV List.length j;simp at this;omega
  obtain⟨T0,u,V,W⟩:=p;have M:st.1<ts.length:=by rw[o.len];exact(bR.mp u).1
  obtain⟨t,B⟩:∃t,ts[st.1]?=some t:=⟨ts[st.1],bO M⟩;obtain⟨T1,C,hA⟩:=o.get B;rw[u] at C;cases C;have F:=hA.gr g;have G:cM (ts.map D.ref) ((st.1:Nat):Int)=some (.ref t):=iG (by rw[bH,B];rfl);have m:=J T0 (dw u);have f1:=p7 m V;have f2:=p7 m W;have X:=cT f1.pos;have p2:=cT f2.pos;have Y:=cP (au T0 st.2.1);have Z:=cP (au T0 st.2.2);have Rm:(2000000:Int)<2 ^ 64:=by decide
  have n1:=f1.num;have n2:=f2.num;have k1:=f1.den;have k2:=f2.den;refine⟨rfl,fB (g.get n) G (Cr F W (fB (g.get n) G (Cr F V ?_)))⟩;refine⟨rfl,_,_,_,_,rfl,_,_,_,_,rfl,p2,Z,Y,X,by omega,by omega,?_,λA2 g2=>?_⟩
  .have:(rf (au T0 st.2.2)).1*(rf (au T0 st.2.1)).2<=2000000*2000000:=dc n2 k1 (eK Y) (by decide)
   exact nV (show _<=(4000000000000:Int) ^ 0*4000000000000 by rw[Int.pow_zero];omega) (ye (by decide))
  have eq:((rf (au T0 st.2.2)).1:Rat)/((rf (au T0 st.2.2)).2:Rat)*(((rf (au T0 st.2.1)).2:Rat)/((rf (au T0 st.2.1)).1:Rat))=dQ I st:=by
   unfold dQ;rw[iu u,iu u,<-mul_div Z X,<-rj f2.pos f1.pos]
  rw[eq];refine⟨rfl,_,_,_,_,rfl,cT c1,cP _,cT U,cP _,by omega,by omega,?_,λA3 g3=>?_⟩
  .refine nV ?_ (ye ldn)
   exact dc c2 d2 (eK (cT U)) (lR (by decide))
  rw[gJ,gJ];exact hN _ _ ⟨l++[st],f,_,_,_,rfl,by simpa using j,by rw[qW];rfl,(g.trans g2).trans g3⟩
 .rintro τ A1 ⟨l,f,x,y,z,e,j,rfl,g⟩
  cases f with
  |cons _ _=>cases e
  |nil=>
  have j:l=ss:=by simpa using j
  subst j;exact q _ g
theorem Ja(T:TopD K mg "closing_steps" Ez sY)(a:mg "enumerate"=none)(j:mg "min"=none):aD P w K mg base 1 "closing_steps" sY (aB mg 1 zE):=by
 refine bW T O2 λW X Y Z nd=>⟨_,(aE (dS 1 nd (bK ah))
  (aE (eB dO rfl (vX a (aa (vr 0) ah)) (mR rfl (f9 (dG 2 nd) (f9 (dG 3 nd) mS))) (aE (dS 4 nd (dW (G8 rfl) HU j boot_min (aa (vr 3) ah)))
  (aH (gm (gX iz slot_list_extend type_list_extend xU vS (vr 1) (aa (AX (i8 none (own:=["other"]) (frees:=["place","first"]) (ix:=[2,4]) rfl (vY (vr 3)) (λc=>(pG 0 (show(["other","place","first"]:List Str).Nodup by decide+kernel))) (λc=>(cg (aa (vr 1) (aa (vr 2) (aa (vr 0) ah))))))) ah))))))
  (aH (aT (vr 1))))),λds A R h hl=>?_⟩
 obtain⟨r,k,rfl,J,h7,b,q⟩:=h;obtain⟨ts,h1,h2⟩:=J;have hz:(1000:Nat)<=sizeLine:=by decide
 have B:=h2.len;have C:∀T∈k,T.length<=32:=λT u=>(b T u).len;have len:∀i,((k.zipIdx.take i).flatMap gV).length<=224:=λi=>by
  have:=Av (k.zipIdx.take i) λp L=>by
   have:=nK.mp (lO L);exact C _ (dw this)
  rw[jM,uY] at this;omega
 refine⟨cV _,rT (getElem?_push h1) ?_⟩;refine d_ (λrest τ A'=>∃(i:Nat) (x y z:Option D),i<=ts.length/\rest=(fG (ts.map D.ref)).drop i/\τ=[some (.ref r),some (.ref A.length),x,y,z]/\A'[A.length]?=some (.lst (((k.zipIdx.take i).flatMap gV).map av))/\Gr A A') ?_ ?_ ?_ _ _ _ ⟨0,none,none,none,cV _,rfl,rfl,aG,Gr.push⟩
 .rintro rest τ A' ⟨i,x,y,z,_,_,_,_,g⟩
  exact g.get h1
 .rintro v rest τ M ⟨i,x,y,z,hi,e,rfl,hc,g⟩ Nx N
  by_cases l:i<ts.length
  .obtain⟨t,I⟩:∃t,ts[i]?=some t:=⟨ts[i],bO l⟩
   obtain⟨T0,u,O⟩:=h2.get I;have n:=O.gr g;have d:i<(fG (ts.map D.ref)).length:=by rw[kQ,aR];exact l
   have ev:=wm (ds:=ts.map D.ref) (i:=i) (x:=.ref t) (by rw[bH,I];rfl);rw[kB d] at e;rw[bO d] at ev;have ev:=Option.some.inj ev;rw[ev] at e;cases e;have f:=b T0 (dw u);have E:((k.zipIdx.take (i+1)).flatMap gV)=((k.zipIdx.take i).flatMap gV)++gV (T0,i):=by
    rw[FN u,uS];simp
   have ln:=len i;have F:af T0≠[]:=λz=>f.ne (by simpa[af] using z);have S:=f.len;have G:(af T0).length=T0.length:=by simp[af]
   refine⟨rfl,LZ n (j0 T0) F λm U s=>?_⟩;have H:=CU U s;refine⟨gZ hc,BH (λo=>.tup [.int ((i:Nat):Int),.str m,o]) rfl n (by omega) (λA' o ho Q V=>⟨show 3<=sizeLine by omega,V⟩) ?_⟩;refine wB (getElem?_push hc) aG (by rw[aR,aR,G];omega) ?_;have em:((af T0).map λo=>D.tup [.int ((i:Nat):Int),.str m,.str o])=(gV (T0,i)).map av:=by
    unfold gV;rw[cY,H];rfl
   refine N _ _ ⟨i+1,_,_,_,by omega,rfl,rfl,?_,(g.trans Gr.push).set (aI _)⟩;rw[E,cX,em];exact get_set (getElem?_push hc)
  .rw[qq (by rw[kQ,aR];omega)] at e
   cases e
 .rintro τ M ⟨i,x,y,z,hi,e,rfl,hc,g⟩
  have hi:i=ts.length:=by
   have:=bV List.length e;simp[kQ] at this;omega
  rw[hi,B,uO (by rw[uY];exact aI _)] at hc;exact q _ _ g hc (aI _)
end My
namespace DP
open L2 MA
def h_(Gs:List aW)(n:Str):List aN:=Gs.foldl (λacc P=>if n∈aZ P then dM P n else acc) []
theorem LH(Gs:List aW)(P:aW)(n:Str):h_ (Gs++[P]) n=if n∈aZ P then dM P n else h_ Gs n:=by
 unfold h_;rw[l_];rfl
noncomputable def iN(Ts:List Tb)(s:aN):List aN:=h_ (eF Ts) s.2.1++[s]++bwd (h_ (eF Ts) s.2.2)
noncomputable def jD(Ts:List Tb):Option (List aN):=((jr Ts).map (iN Ts)).find? (λss=> !decide (eN Ts ss=1))
theorem eV.get{lo:Nat}{A:Ar}:∀{a:List Nat} {Ps:List aW} {i q:Nat},eV lo A a Ps->a[i]?=some q->∃P,Ps[i]?=some P/\fZ lo A q P
 |[],[],i,t,_,e=>by simp at e
 |t::ts,T::b,0,_,h,e=>by
  simp at e;subst e;exact⟨T,rfl,h.1⟩
 |t::ts,T::b,i+1,_,h,e=>by
  obtain⟨c,h1,h2⟩:=eV.get (i:=i) h.2 (by simpa using e);exact⟨c,by simpa using h1,h2⟩
 |[],_::_,_,_,h,_=>h.elim
 |_::_,[],_,_,h,_=>h.elim
theorem BW{a:List Tb}:∀(ns:List Str) (Gs:List aW) (P:aW),P∈ns.foldl (c9 a) Gs->P∈Gs\/∃n∈ns,P=ic a n
 |[],Gs,P,h=>.inl h
 |n::ns,Gs,P,h=>by
  rcases BW ns (c9 a Gs n) P h with h|⟨m,h1,h2⟩
  .unfold c9 at h
   split at h
   .exact .inl h
   .rcases ck.mp h with h|h
    .exact .inl h
    .exact .inr ⟨n,cR ..,b_.mp h⟩
  .exact .inr ⟨m,cj _ h1,h2⟩
theorem BU{a:List Tb}{b:List Str}(hok:gh a b){P:aW}(h:P∈eF a):∃n∈b,(∃T∈a,n∈af T)/\P=ic a n:=by
 rcases BW _ _ P h with h|⟨n,h1,h2⟩
 .cases h
 .obtain⟨T,c,d⟩:=qj.mp h1
  exact⟨n,hok.sub T c n d,⟨T,c,d⟩,h2⟩
theorem Af{a:List Tb}:∀(f i:Nat) (P:aW),(∀p∈P,∀s∈p.2,cS a s)->∀p∈eW a f i P,∀s∈p.2,cS a s
 |0,i,P,h=>h
 |f+1,i,P,h=>by
  cases e:P[i]? with
  |none=>
   have:eW a (f+1) i P=P:=by
    show(match P[i]? with|some p=>eW a f (i+1) ((fh a p.1).foldl cC P)|none=>P)=_;rw[e]
   rw[this];exact h
  |some g=>
   rw[vH e];refine Af f (i+1) _ ?_;have key:∀(ss:List aN) (Q:aW),(∀s∈ss,s∈fh a g.1)->(∀p∈Q,∀s∈p.2,cS a s)->∀p∈ss.foldl cC Q,∀s∈p.2,cS a s:=by
    intro ss;induction ss with
    |nil=>intro Q _ h;exact h
    |cons s ss j=>
     intro Q c b;refine j _ (λx k=>c x (cj _ k)) λp hp s' hs'=>?_;unfold cC at hp;split at hp
     .exact b p hp s' hs'
     .rcases ck.mp hp with hp|hp
      .exact b p hp s' hs'
      .rw[b_.mp hp] at hs'
       rcases ck.mp hs' with hs'|hs'
       .by_cases d:s.2.1∈aZ Q
        .exact b _ (r_ d) s' hs'
        .have l:dM Q s.2.1=[]:=by
          have:=find_some (T:=Q) (n:=s.2.1);rw[eL (show ¬s.2.1∈Q.map (·.1) from d)] at this;unfold dM;cases e:Q.find? (λp=>decide (p.1=s.2.1)) with
          |none=>rfl
          |some p=>rw[e] at this;cases this
         rw[l] at hs';cases hs'
       .rw[b_.mp hs']
        obtain⟨T,h1,h2,m,o⟩:=xS.mp (c s (cR ..));exact⟨T,h1,by rw[m];exact h2,o⟩
   exact key _ _ (λs h=>h) h
theorem MZ{a:List Tb}{n:Str}:∀p∈ic a n,∀s∈p.2,cS a s:=
 Af 14 0 _ λp c s b=>by
  have:p=(n,[]):=by simpa using c
  rw[this] at b;cases b
theorem CD{c:List Tb}{d:List Str}(hok:gh c d)(n:Str):∀(Gs:List aW) (acc:List aN),(∀P∈Gs,P∈eF c)->((∀s∈acc,cS c s)/\acc.length<=d.length - 1)->(∀s∈Gs.foldl (λacc P=>if n∈aZ P then dM P n else acc) acc,cS c s)/\(Gs.foldl (λacc P=>if n∈aZ P then dM P n else acc) acc).length<=d.length - 1
 |[],acc,_,h=>h
 |P::Gs,acc,h,e=>by
  rw[iA];refine CD hok n Gs _ (λQ f=>h Q (cj _ f)) ?_;split
  .rename_i g
   obtain⟨m,i,_,rfl⟩:=BU hok (h P (cR ..));obtain⟨b,_,_⟩:=tR hok i;have a:=r_ g;refine⟨MZ _ a,?_⟩;have h1:=b.pl _ a;have h2:=b.len;simp at h1;omega
  .exact e
theorem r9{a:List Tb}{b:List Str}(hok:gh a b)(Gs:List aW)(n:Str)(h:∀P∈Gs,P∈eF a):(∀s∈h_ Gs n,cS a s)/\(h_ Gs n).length<=b.length - 1:=
 CD hok n Gs [] h ⟨(λs h=>by cases h),cV _⟩
theorem GZ{d:List Tb}{ss:List aN}(h:∀s∈ss,cS d s):∀s∈bwd ss,cS d s:=λs e=>by
 unfold bwd at e;obtain⟨s',h1,rfl⟩:=br.mp e;obtain⟨T,a,b,c⟩:=h s' (mem_reverse.mp h1);exact⟨T,a,c,b⟩
theorem Au{b:List Tb}{s:aN}(h:s∈jr b):∃T,b[s.1]?=some T/\s.2.1=lu T/\s.2.2∈af T:=by
 unfold jr at h;obtain⟨⟨T,i⟩,a,c⟩:=qj.mp h;have a:=nK.mp a;unfold gV at c;obtain⟨o,d,rfl⟩:=br.mp c;exact⟨T,a,rfl,d⟩
theorem CT{T:Tb}(h:T≠[]):lu T∈af T/\∀n∈af T,¬n.cps.toList<(lu T).cps.toList:=by
 have key:∀ns:List Str,ns≠[]->∃m,m∈ns/\∀n∈ns,¬n.cps.toList<m.cps.toList:=by
  intro ns;induction ns with
  |nil=>intro h;exact absurd rfl h
  |cons a ns c=>
   intro _;by_cases hn:ns=[]
   .subst hn
    exact⟨a,by simp,λn hn=>by
     have:n=a:=by simpa using hn
     rw[this];exact uN _⟩
   .obtain⟨m,h1,h2⟩:=c hn
    by_cases b:a.cps.toList<m.cps.toList
    .refine⟨a,by simp,λn hn=>?_⟩
     rcases cu.mp hn with rfl|hn
     .exact uN _
     .exact λz=>h2 n hn (List.lt_trans z b)
    .refine⟨m,by simp[h1],λn hn=>?_⟩
     rcases cu.mp hn with rfl|hn
     .exact b
     .exact h2 n hn
 obtain⟨m,h1,h2⟩:=key (af T) (λz=>h (by simpa[af] using z));rw[CU h1 h2];exact⟨h1,h2⟩
theorem yu{a:List Tb}{b:List Str}(hok:gh a b){s:aN}(h:s∈jr a):(∀x∈iN a s,cS a x)/\(iN a s).length<=2*(b.length - 1)+1:=by
 obtain⟨T,h1,h2,c⟩:=Au h;have d:=dw h1;obtain⟨a1,a2⟩:=r9 hok (eF a) s.2.1 λP h=>h;obtain⟨e,g⟩:=r9 hok (eF a) s.2.2 λP h=>h;have f:cS a s:=⟨T,h1,by rw[h2];exact(CT (hok.tok T d).ne).1,c⟩;unfold iN;constructor
 .intro x hx
  rcases ck.mp hx with hx|hx
  .rcases ck.mp hx with hx|hx
   .exact a1 x hx
   .rw[b_.mp hx]
    exact f
  .exact GZ e x hx
 .simp[bwd]
  omega
def zY:Ct:=λds A R _=>∃r Ts NN,ds=[.ref r]/\gQ A r Ts/\gh Ts NN/\(jD Ts=none->∀A',Gr A A'->R .ai A')/\∀ss,jD Ts=some ss->∀A' q,Gr A A'->A'[q]?=some (.lst (ss.map av))->A.length<=q->R (.ref q) A'
theorem xT:∀(a kvs:List (Key×D)) (k:Key),(a.map (·.1)).Nodup->bf (je kvs a) k=match bf a k with|some v=>some v|none=>bf kvs k
 |[],kvs,k,_=>rfl
 |p::a,kvs,k,c=>by
  have b:=ki.mp (show(p.1::a.map (·.1)).Nodup from c);show bf (je (cG kvs p.1 p.2) a) k=_;rw[xT a _ k b.2,rG];show _=match (if p.1=k then some p.2 else bf a k) with|some v=>some v|none=>bf kvs k
  by_cases e:p.1=k
  .rw[aA e,aA e]
   have:bf a k=none:=by
    cases h:bf a k with
    |none=>rfl
    |some v=>
     exfalso;refine b.1 ?_;rw[e];clear xT c b;induction a with
     |nil=>cases h
     |cons q a f=>
      have h:(if q.1=k then some q.2 else bf a k)=some v:=h;by_cases d:q.1=k
      .simp[d]
      .rw[ay d] at h
       simp[f h]
   rw[this]
  .rw[ay e,ay e]
def oh(b:Nat)(NN:List Str)(A:Ar)(Gs:List aW):Prop:=∃(kvs:List (Key×D)) (ns:List Str),A[b]?=some (.dct kvs)/\kvs.map (·.1)=ns.map Sum.inr/\ns.Nodup/\(∀n,n∈ns↔n∈ff Gs)/\(∀n∈ns,n∈NN)/\∀n∈ns,∃a,b<a/\bf kvs (Sum.inr n)=some (.ref a)/\A[a]?=some (.lst ((h_ Gs n).map av))
theorem oh.gr{b:Nat}{c:List Str}{A B:Ar}{Gs:List aW}(h:oh b c A Gs)(g:Gr A B):oh b c B Gs:=by
 obtain⟨kvs,ns,h1,h2,d,e,f,i⟩:=h;exact⟨kvs,ns,g.get h1,h2,d,e,f,λn j=>by obtain⟨a,x,y,z⟩:=i n j;exact⟨a,x,y,g.get z⟩⟩
theorem Mc{ns:List Str}(h:ns.Nodup):(ns.map (Sum.inr:Str->Key)).Nodup:=by
 exact List.Pairwise.map _ (λa b c e=>c (Sum.inr.inj e)) h
end DP
namespace My
open L2 DP MA
theorem JF(T:TopD K mg "find_ring" EB sZ)(o:aD P w K mg base 3 "groups" s9 (aB mg 1 zH))(f:aD P w K mg base 1 "closing_steps" sY (aB mg 1 zE))(j:aD P w K mg base 1 "backward" sU (aB mg 1 zA))(k:aD P w K mg base 4 "comes_to" pL (aB mg 2 vn)):aD P w K mg base 5 "find_ring" sZ (aB mg 1 zY):=by
 refine bW T O4 λY hR Z M nd=>⟨_,(aE (dS 1 nd vW)
  (aE (eB dO rfl (d9 (dL o Y Z (aa (vr 0) ah))) (dG 2 nd) (aH (gm (AY PySem.F.plainAttrs_dict slot_dict_update PySem.F.type_dict_update CW AR (vr 1) (aa (vr 2) ah)))))
  (aE (eB dO rfl (d9 (dL f Y Z (aa (vr 0) ah))) (dG 3 nd) (aE (dS 4 nd (c8 (c8 (dX M (vr 1) (dX M (vr 3) ao)) (bK (aa (vr 3) ah))) (dL j Y Z (aa (dX M (vr 1) (dX M (vr 3) ao)) ah))))
  (aH (cz (j_ M (dL k Y Z (aa (vr 0) (aa (vr 4) ah))) (cg (aa ao (aa ao ah)))) (aH (aT (vr 4))) cE))))
  (aH (aT jU))))),λds A R h hl=>?_⟩
 obtain⟨r,d,NN,rfl,hB,hok,q1,q2⟩:=h;have hz:(1000:Nat)<=sizeLine:=by decide
 have e1:(A++[C.dct []]).length=A.length+1:=by simp
 refine⟨rfl,r,d,NN,rfl,hB.gr Gr.push,hok,λA1 q0 g1 hG=>?_⟩;obtain⟨lq,gs,N,E⟩:=hG;rw[e1] at lq E;have xG:=E.len;have J7:oh A.length NN A1 []:=⟨[],[],g1.get aG,rfl,nodup_nil,λn=>by simp[ff],(λn h=>by cases h),(λn h=>by cases h)⟩;have JO:Gr A A1:=Gr.push.trans g1;refine eO N ?_;refine d_ (λrest τ A'=>∃(i:Nat) (x:Option D),i<=gs.length/\rest=(gs.map D.ref).drop i/\τ=[some (.ref r),some (.ref A.length),x,none,none]/\oh A.length NN A' ((eF d).take i)/\A'[q0]?=some (.lst (gs.map D.ref))/\eV (A.length+1) A' gs (eF d)/\Gr A A') ?_ ?_ ?_ _ _ _ ⟨0,none,cV _,rfl,rfl,J7,N,E,JO⟩
 .rintro rest τ A' ⟨_,_,_,_,_,_,h,_,_⟩
  exact h
 .rintro v rest τ A2 ⟨i,x,hi,e,rfl,hM,hq,hP,G⟩ Nx hN
  by_cases O:i<gs.length
  .obtain⟨t,ht⟩:∃t,gs[i]?=some t:=⟨gs[i],bO O⟩
   obtain⟨P0,Q,J_⟩:=hP.get ht;have B:i<(gs.map D.ref).length:=by rw[aR];exact O
   have ev:(gs.map D.ref)[i]?=some (.ref t):=by rw[bH,ht];rfl
   rw[kB B] at e;rw[bO B] at ev;have ev:=Option.some.inj ev;rw[ev] at e;cases e;obtain⟨m,hm,_,eP⟩:=BU hok (dw Q);obtain⟨u,_,_⟩:=tR hok hm;rw[<-eP] at u;obtain⟨LO,b,m1,m2,m3⟩:=id J_;obtain⟨kvs,ns,k1,k2,k3,k4,k5,k6⟩:=hM;have wu:(eF d).take (i+1)=(eF d).take i++[P0]:=by rw[take_succ,Q];rfl
   have ln:ns.length<=12:=dU (ni ns NN k3 k5) hok.nn;have LF:kvs.length=ns.length:=by
    have:=bV List.length k2;simpa using this
   have LG:b.length=P0.length:=by
    have:=bV List.length m2;simpa[aZ] using this
   have lP:=u.len;have Mi:=hok.nn;obtain⟨ns',j1,j2,j3⟩:=CV k2 m2 k3;have L5:(b.map (·.1)).Nodup:=by rw[m2];exact Mc u.nd
   refine⟨Co k1,Fy k1 m1 (by omega) (by omega) ?_⟩;refine hN _ _ ⟨i+1,_,by omega,rfl,rfl,?_,fC (by omega) hq,hP.jC λq P z=>z.set (by omega),G.set (aI _)⟩;rw[wu];refine⟨_,ns',p5 k1,j1,j2,λn=>?_,λn hn=>?_,λn hn=>?_⟩
   .rw[j3,k4]
    simp[ff]
   .rcases (j3 n).mp hn with h'|h'
    .exact k5 n h'
    .exact u.sub n h'
   .rw[xT _ _ _ L5,LH]
    by_cases p:n∈aZ P0
    .obtain⟨a,z,ga,ha⟩:=m3 n p
     rw[ga,aA p];exact⟨a,by omega,rfl,fC (by omega) ha⟩
    .have hn1:n∈ns:=by
      rcases (j3 n).mp hn with h'|h'
      .exact h'
      .exact absurd h' p
     have e0:bf b (Sum.inr n)=none:=by
      have:=xA (n:=n) m2;rw[eL p] at this;cases e:bf b (Sum.inr n) with
      |none=>rfl
      |some v=>rw[e] at this;cases this
     obtain⟨a,z,ga,ha⟩:=k6 n hn1;rw[e0,ay p];exact⟨a,z,ga,fC (by omega) ha⟩
  .rw[qq (by rw[aR];omega)] at e
   cases e
 rintro τ A2 ⟨i,x,hi,e,rfl,hM,hq,hP,G⟩;have hi:i=gs.length:=by
  have:=bV List.length e;simp at this;omega
 rw[hi,xG,take_length] at hM;refine⟨rfl,r,d,rfl,hB.gr G,hok.len,hok.tok,λA3 q3 g3 h3 l3=>?_⟩;refine eO h3 ?_;refine d_ (λrest τ A'=>∃(H b:List aN) (y z:Option D),rest=b.map av/\H++b=jr d/\(∀s∈H,eN d (iN d s)=1)/\τ=[some (.ref r),some (.ref A.length),x,y,z]/\Gr A3 A') ?_ ?_ ?_ _ _ _ ⟨[],jr d,none,none,rfl,rfl,(λ_ h=>by cases h),rfl,Gr.refl⟩
 .rintro rest τ A' ⟨_,_,_,_,_,_,_,_,g⟩
  exact g.get h3
 .rintro v rest τ A4 ⟨H,b,y,z,e,l,h1,rfl,L⟩ Nx hN
  cases b with
  |nil=>cases e
  |cons st b=>
  cases e;have S:st∈jr d:=by rw[<-l];simp
  obtain⟨T0,hT,c1,c2⟩:=Au S;have I:=dw hT;have n1:st.2.1∈ff (eF d):=BS hok I (by rw[c1];exact(CT (hok.tok T0 I).ne).1);have n2:st.2.2∈ff (eF d):=BS hok I c2;obtain⟨kvs,ns,k1,k2,k3,k4,k5,k6⟩:=hM.gr (g3.trans L);obtain⟨a1,_,JR,ha1⟩:=k6 _ ((k4 _).mpr n1);obtain⟨a2,_,JS,ha2⟩:=k6 _ ((k4 _).mpr n2);obtain⟨_,b1⟩:=r9 hok (eF d) st.2.1 λP h=>h;obtain⟨_,b2⟩:=r9 hok (eF d) st.2.2 λP h=>h;obtain⟨r1,r2⟩:=yu hok S;have nn:=hok.nn;refine fH k1 rfl JR ⟨show 1<=sizeLine by omega,iJ (getElem?_push ha1) aG (by simp;omega) ?_⟩;refine fH (getElem?_push (getElem?_push k1)) rfl JS ?_;refine⟨rfl,a2,_,rfl,getElem?_push (getElem?_push ha2),by omega,λA5 q5 g5 h5 l5=>?_⟩;have U:A5[(A4++[C.lst [av st]]).length]?=some (.lst ((h_ (eF d) st.2.1).map av++[av st])):=g5.get aG;have Rz:(bwd (h_ (eF d) st.2.2)).length<=11:=by simp[bwd];omega
  refine iJ U h5 (by simp;omega) ?_;have em:(h_ (eF d) st.2.1).map av++[av st]++(bwd (h_ (eF d) st.2.2)).map av=(iN d st).map av:=by
   unfold iN;simp
  rw[em];have V:Gr A4 (A5++[C.lst ((iN d st).map av)]):=((Gr.push.trans Gr.push).trans g5).trans Gr.push;have W:=(g3.trans L).trans V;refine⟨rfl,r,A5.length,d,iN d st,rfl,hB.gr (G.trans W),hok.tok,aG,r1,by omega,λA6 g6=>⟨show 2<=sizeLine by omega,sD (y:=1) ?_⟩⟩;refine cN (λc=>?_) (λc=>?_)
  .have er:jD d=some (iN d st):=by
    unfold jD;rw[<-l,cX,find?_append,cB];have e0:(H.map (iN d)).find? (λss=> !decide (eN d ss=1))=none:=by
     rw[qv];intro ss J;obtain⟨s,X,rfl⟩:=br.mp J;simp[h1 s X]
    rw[e0,List.find?_cons_of_pos (by simpa using c)];rfl
   have ll:=(G.trans (g3.trans L)).len;have Ly:=g5.len;simp at Ly;exact q2 _ er A6 _ ((G.trans W).trans g6) (g6.get aG) (by omega)
  .refine hN _ _ ⟨H++[st],b,_,_,rfl,by simpa using l,λs X=>?_,rfl,(L.trans V).trans g6⟩
   rcases ck.mp X with h'|h'
   .exact h1 s h'
   .rw[b_.mp h']
    exact c
 .rintro τ A4 ⟨H,b,y,z,e,l,h1,rfl,L⟩
  cases b with
  |cons _ _=>cases e
  |nil=>
  have l:H=jr d:=by simpa using l
  subst l;refine q1 ?_ _ ((G.trans g3).trans L);unfold jD;rw[qv];intro ss J;obtain⟨s,X,rfl⟩:=br.mp J;simp[h1 s X]
end My
namespace DP
open L2 MA
def gg(T:Tb)(n:Str)(x:Rat):Tb:=if (T.any λp=>decide (p.1=n))=true then T.map (λp=>if p.1=n then (p.1,x) else p) else T++[(n,x)]
def aF(m:M):Tb:=(bM m "" 1).foldl (λT p=>gg T p.2.1 p.2.2) []
theorem Cz(T:Tb)(n:Str)(x:Rat):aU (gg T n x)=cG (aU T) (Sum.inr n) (fq x):=by
 have e:((aU T).any λa=>decide (a.1=(Sum.inr n:Key)))=T.any λp=>decide (p.1=n):=by
  unfold aU;rw[List.any_map];congr 1;funext p;show decide ((Sum.inr p.1:Key)=Sum.inr n)=decide (p.1=n);by_cases h:p.1=n
  .rw[cW h,cW (by rw[h])]
  .rw[eL h,eL (λz=>h (Sum.inr.inj z))]
 unfold gg cG;rw[e];split
 .unfold aU
  rw[cY,cY];refine nW λp _=>?_;show((Sum.inr (if p.1=n then (p.1,x) else p).1:Key),fq (if p.1=n then (p.1,x) else p).2)=if (Sum.inr p.1:Key)=Sum.inr n then (Sum.inr p.1,fq x) else (Sum.inr p.1,fq p.2)
  by_cases h:p.1=n
  .rw[aA h,aA (by rw[h])]
  .rw[ay h,ay (λz=>h (Sum.inr.inj z))]
 .unfold aU
  simp
theorem xC:∀(a:List (Str×Str×Rat)) (T:Tb),aU (a.foldl (λT p=>gg T p.2.1 p.2.2) T)=((a.map λp=>(p.2.1,fq p.2.2)).map λp=>((Sum.inr p.1:Key),p.2)).foldl (λacc p=>cG acc p.1 p.2) (aU T)
 |[],T=>rfl
 |p::a,T=>by
  rw[iA,xC a,Cz];rfl
theorem DB(T:Tb)(n:Str)(x:Rat):af (gg T n x)=if n∈af T then af T else af T++[n]:=by
 have e:(T.any λp=>decide (p.1=n))=decide (n∈af T):=by
  rw[mz,nP,nQ];constructor
  .rintro ⟨p,a,h⟩
   rw[<-fE h];exact gw a
  .intro h
   obtain⟨p,a,e⟩:=br.mp h;exact⟨p,a,cW e⟩
 unfold gg;rw[e];by_cases h:n∈af T
 .rw[aA (cW h),aA h]
  unfold af;rw[cY];refine nW λp _=>?_;show(if p.1=n then (p.1,x) else p).1=p.1;split<;>rfl
 .rw[ay (by simpa using h),ay h]
  simp[af]
theorem BD:∀(c:List (Str×Str×Rat)) (T:Tb) (g:Str->Rat),(af T).Nodup->(∀p∈T,p.2=g p.1)->(∀r∈c,r.2.2=g r.2.1)->
  (af (c.foldl (λT p=>gg T p.2.1 p.2.2) T)).Nodup/\(∀p∈c.foldl (λT p=>gg T p.2.1 p.2.2) T,p.2=g p.1)/\∀n,n∈af (c.foldl (λT p=>gg T p.2.1 p.2.2) T)↔n∈af T\/n∈c.map (·.2.1)
 |[],T,g,h1,h2,_=>⟨h1,h2,λn=>by simp⟩
 |r::c,T,g,h1,h2,i=>by
  have k1:(af (gg T r.2.1 r.2.2)).Nodup:=by
   rw[DB];split
   .exact h1
   .rename_i k
    rw[qk];refine⟨h1,by simp,λa l b j=>?_⟩;simp at j;rw[j];exact λz=>k (by rw[<-z];exact l)
  have k2:∀p∈gg T r.2.1 r.2.2,p.2=g p.1:=λp hp=>by
   have e:=i r (cR ..);unfold gg at hp;split at hp
   .obtain⟨d,f,rfl⟩:=br.mp hp
    by_cases hc:d.1=r.2.1
    .rw[aA hc]
     show r.2.2=g d.1;rw[e,hc]
    .rw[ay hc]
     exact h2 d f
   .rcases ck.mp hp with hp|hp
    .exact h2 p hp
    .rw[b_.mp hp]
     exact e
  obtain⟨m,o,q⟩:=BD c _ g k1 k2 λx s=>i x (cj _ s);refine⟨m,o,λn=>?_⟩;rw[iA,q,DB];by_cases h:r.2.1∈af T
  .rw[aA h]
   simp;constructor
   .rintro (h'|h')
    .exact .inl h'
    .exact .inr (.inr h')
   .rintro (h'|rfl|h')
    .exact .inl h'
    .exact .inl h
    .exact .inr h'
  .rw[ay h]
   simp[or_assoc]
structure Hl(m:M):Prop where
 wf:Wf m
 deep:m.deep<=5
 bar:eo [] (bM m "" 1)=none
theorem nG{m:M}(h:Hl m):f6 (aF m)/\(∀n,n∈af (aF m)↔n∈m.names)/\∀n∈af (aF m),au (aF m) n=shr m n:=by
 obtain⟨k1,k2⟩:=yC h.bar;obtain⟨d,f,g⟩:=BD (bM m "" 1) [] (shr m) nodup_nil (λp a=>by cases a) k1;have i:(bM m "" 1).map (·.2.1)=m.names:=nC m "" 1;have mem:∀n,n∈af (aF m)↔n∈m.names:=λn=>by
  show n∈af ((bM m "" 1).foldl (λT p=>gg T p.2.1 p.2.2) [])↔_;rw[g,i];simp[af]
 have j:(af (aF m)).length=(aF m).length:=by simp[af]
 have nl:=nh h.deep;refine⟨⟨d,λz=>?_,?_,λp a=>?_⟩,mem,λn c=>?_⟩
 .have b:=bY.CZ m
  cases e:m.names with
  |nil=>rw[e] at b;simp at b
  |cons n t=>
   have:=(mem n).mpr (by rw[e];simp);rw[z] at this;cases this
 .have:=ni (af (aF m)) m.names d λx k=>(mem x).mp k
  omega
 .have e:p.2=shr m p.1:=f p a
  rw[e];exact Pr h.wf.arms h.deep h.bar ((mem p.1).mp (gw a))
 .have:=find_some (T:=aF m) (n:=n)
  rw[cW (show n∈(aF m).map (·.1) from c)] at this;obtain⟨p,a⟩:=mq.mp this;unfold au;rw[a];have h2:=nR a;have l:p.1=n:=fE h2;rw[<-l];exact f p (iO a)
def zS:Ct:=λds A R _=>∃m,ds=[enc m]/\Hl m/\∀A' q,Gr A A'->A'[q]?=some (.dct (aU (aF m)))->A.length<=q->R (.ref q) A'
def gS(x:D)(ms:List M):Prop:=x=.tup (ms.map enc)/\1<=ms.length/\ms.length<=6/\∀m∈ms,Hl m
def zC:Ct:=λds A R E=>∃x,ds=[x]/\(∃ms,gS x ms)/\((∃ms,gS x ms)->∀A',Gr A A'->R .ai A')/\((¬∃ms,gS x ms)->∀A',Gr A A'->E "NoHall" A')
def vo:Ct:=λds A R E=>∃x,ds=[x]/\(∃ms,gS x ms)/\(∀ms,gS x ms->∀A' q,Gr A A'->gQ A' q (ms.map aF)->A.length<=q->R (.ref q) A')/\((¬∃ms,gS x ms)->∀A',Gr A A'->E "NoHall" A')
theorem wk:∀{a b:M},enc a=enc b->a=b
 |.wt n,.wt k,h=>by
  have h:D.tup [.str "weight",.str n]=.tup [.str "weight",.str k]:=h;simp at h;rw[h]
 |.wt n,.dF l r a b,h=>by
  have h:D.tup [.str "weight",.str n]=.tup [.str "rod",.int l,.int r,enc a,enc b]:=h;simp at h
 |.dF l r a b,.wt n,h=>by
  have h:D.tup [.str "rod",.int l,.int r,enc a,enc b]=.tup [.str "weight",.str n]:=h;simp at h
 |.dF l r a b,.dF c r' d e,h=>by
  have h:D.tup [.str "rod",.int l,.int r,enc a,enc b]=.tup [.str "rod",.int c,.int r',enc d,enc e]:=h;simp at h;obtain⟨h1,h2,f,g⟩:=h;rw[h1,h2,wk f,wk g]
theorem Br:∀{b a:List M},b.map enc=a.map enc->b=a
 |[],[],_=>rfl
 |[],_::_,h=>by cases h
 |_::_,[],h=>by cases h
 |m::b,c::a,h=>by
  rw[cB,cB,List.cons.injEq] at h;rw[wk h.1,Br h.2]
theorem TabsAt.snoc{A:Ar}{q:Nat}{T:Tb}(c:TabAt A q T):∀{a:List Nat} {b:List Tb},TabsAt A a b->TabsAt A (a++[q]) (b++[T])
 |[],[],_=>⟨c,trivial⟩
 |_::a,_::b,h=>⟨h.1,TabsAt.snoc c h.2⟩
 |[],_::_,h=>h.elim
 |_::_,[],h=>h.elim
end DP
namespace My
open L2 DP MA
theorem Jv(T:TopD K mg "name_shares" EM tL)(b:mg "dict"=none)(a:aD P w K mg base 10 "shares" pQ (aB mg 1 vt)):aD P w K mg base 11 "name_shares" tL (aB mg 1 zS):=by
 refine bW T Pc λj r k s nd=>⟨_,(aH (aT (gW (An rfl) AJ b boot_dict (aa (i8 (some 3) (own:=["way","name","share"]) (frees:=[]) (ix:=[]) rfl (d9 (dL a j k (aa (vr 0) ah))) (λc=>(nv rfl (gp (pG 0 (show(["way","name","share"]:List Str).Nodup by decide+kernel)) (gp (pG 1 (show(["way","name","share"]:List Str).Nodup by decide+kernel)) (gp (pG 2 (show(["way","name","share"]:List Str).Nodup by decide+kernel)) ny))))) (λc=>(cg (aa (vr 1) (aa (vr 2) ah))))) ah)))),λds A R h hl=>?_⟩;obtain⟨m,rfl,g,q⟩:=h;have hd:=g.deep;have hz:(1000:Nat)<=sizeLine:=by decide
 refine⟨rfl,m,rfl,g.wf,hd,λt u i h1 l1=>?_⟩;refine eO h1 ?_;have ln:=lJ m "" 1;have nl:=nh hd;refine i7 (f:=λd=>match d with|.tup [_,n,x]=>.tup [n,x]|d=>d) h1 _ _ (λd hd=>?_) (by simp;omega) ?_
 .obtain⟨p,v,rfl⟩:=br.mp hd
  exact⟨[.str p.1,.str p.2.1,fq p.2.2],rfl,λQ l=>⟨show 2<=sizeLine by decide,l⟩⟩
 have e:((bM m "" 1).map ua).map (λd=>match d with|.tup [_,n,x]=>D.tup [n,x]|d=>d)=(bM m "" 1).map j7:=by
  rw[cY];rfl
 rw[gx,e];refine AV aG (yd _) (by simp;omega) ?_;refine q _ _ ((i.trans Gr.push).trans Gr.push) ?_ (by have:=i.len;simp;omega);have o:aU (aF m)=tV (((bM m "" 1).map λp=>(p.2.1,fq p.2.2)).map λp=>((Sum.inr p.1:Key),p.2)):=xC _ [];rw[o];exact aG
theorem I_(T:TopD K mg "check_hall" Ex sW)(c:mg "isinstance"=none)(k:mg "tuple"=none)(n:mg "len"=none){t:Tok}(a:mg "MOST_MOBILES"=some (.int 6 t)){d:Addr}(f:mg "NoHall"=some (.ref d))(i:excIn K d uA "ValueError.__new__"=true)
  (j:aD P w K mg base 8 "is_mobile" pN (aB mg 1 vp))(o:aD P w K mg base 11 "bar" sV (aB mg 1 zz)):aD P w K mg base 12 "check_hall" sW (aB mg 1 zC):=by
 refine bW T O0 λs u z N nd=>⟨_,(aE (cz (PW.pt (fy (e_ (eE (gD kit_tuple c k boot_tuple (vr 0)))) (f_ (e_ (Fj ao (dW eY eu n fk (aa (vr 0) ah)) (oV a)))))) (aH (v_ u rfl f i (aa bG ah))) cE)
  (aH (eB dO rfl (d9 (vr 0)) (dG 1 nd) (aH (cz (PW.pt (fy (e_ (eE (dL j s z (aa (vr 1) ah)))) (f_ (QC (dL o s z (aa (vr 1) ah)) jU)))) (aH (v_ u rfl f i (aa bG ah))) cE))))),λds A R h hl=>?_⟩
 obtain⟨x,rfl,⟨l,B⟩,F,O⟩:=h;obtain⟨rfl,h1,Q,G⟩:=id B;have lm:(l.map enc).length=l.length:=aR ..;refine cD (λC=>?_) (λC=>absurd (show(1:Int)<=(((l.map enc).length:Nat):Int) by omega) C);refine cN (λE=>absurd (show(((l.map enc).length:Nat):Int)<=6 by omega) E) (λE=>?_);refine d_ (λrest τ A'=>∃(r b:List M) (y:Option D),rest=b.map enc/\r++b=l/\τ=[some (.tup (l.map enc)),y]/\Gr A A') ?_ ?_ ?_ _ _ _ ⟨[],l,none,rfl,rfl,rfl,Gr.refl⟩
 .intro _ _ _ _
  trivial
 .rintro v rest τ H ⟨r,b,y,e,p,rfl,g⟩ S I
  cases b with
  |nil=>cases e
  |cons m b=>
   cases e;have q:=G m (by rw[<-p];simp);refine⟨rfl,_,⟨m,rfl,q.wf,q.deep,rfl⟩,λU J=>⟨rfl,m,rfl,q.wf,q.deep,λV L=>?_⟩⟩;rw[q.bar];exact I _ _ ⟨r++[m],b,_,rfl,by simpa using p,rfl,(g.trans J).trans L⟩
 .rintro τ H ⟨r,b,y,e,p,rfl,g⟩
  exact F ⟨l,B⟩ _ g
theorem Jh(T:TopD K mg "hall_shares" EE pM)(d:aD P w K mg base 12 "check_hall" sW (aB mg 1 zC))(b:aD P w K mg base 11 "name_shares" tL (aB mg 1 zS)):aD P w K mg base 13 "hall_shares" pM (aB mg 1 vo):=by
 refine bW T O6 λp F t G nd=>⟨_,(aE (gm (dL d p t (aa (vr 0) ah)))
  (aH (aT (i8 none (own:=["mobile"]) (frees:=[]) (ix:=[]) rfl (d9 (vr 0)) (λc=>(pG 0 (show(["mobile"]:List Str).Nodup by decide+kernel))) (λc=>(dL b p pR (aa (vr 0) ah))))))),λds A R h hl=>?_⟩
 obtain⟨x,rfl,u,q,o⟩:=h;have hz:(1000:Nat)<=sizeLine:=by decide
 refine⟨rfl,x,rfl,u,λ⟨k,r⟩ s l=>?_,λv s l=>o v _ l⟩;have z:=q k r;clear q;obtain⟨rfl,h1,H,B⟩:=r;refine Ax (λrest ys A'=>∃(i a:List M) (ts:List Nat),rest=a.map enc/\i++a=k/\ys=ts.map D.ref/\TabsAt A' ts (i.map aF)/\Gr s A') ?_ ?_ ?_ ?_ _ _ _ ⟨[],k,[],rfl,rfl,rfl,trivial,Gr.refl⟩
 .intro _ _ _ _
  trivial
 .rintro rest ys A' ⟨i,a,ts,_,e,rfl,j,_⟩
  have l1:=j.len;have l2:=bV List.length e;rw[dI] at l2;rw[aR] at l1 ⊢;omega
 .rintro y rest ys A' ⟨i,a,ts,e,f,rfl,j,g⟩
  cases a with
  |nil=>cases e
  |cons m a=>
   cases e;refine⟨[enc m],rfl,λQ E=>⟨rfl,m,rfl,B m (by rw[<-f];simp),λI o n h2 l2=>E _ _ ⟨i++[m],a,ts++[o],rfl,by simpa using f,by simp,?_,g.trans n⟩⟩⟩;rw[cX];exact TabsAt.snoc (.inl h2) (j.gr n)
 .rintro ys A' ⟨i,a,ts,e,f,rfl,j,g⟩
  cases a with
  |cons _ _=>cases e
  |nil=>
   have f:i=k:=by simpa using f
   subst f;have n:=(l.trans g).trans (Gr.push (T:=[C.lst (ts.map D.ref)]));exact z _ _ n ⟨ts,aG,j.gr Gr.push⟩ (l.trans g).len
end My
namespace DP
open L2 MA
def zX:Ct:=λds A R E=>∃x NN,ds=[x]/\(∃ms,gS x ms)/\(∀ms,gS x ms->gh (ms.map aF) NN/\(jD (ms.map aF)=none->∀A',Gr A A'->R .ai A')/\∀ss,jD (ms.map aF)=some ss->∀A' q,Gr A A'->A'[q]?=some (.lst (ss.map av))->A.length<=q->R (.ref q) A')/\((¬∃ms,gS x ms)->∀A',Gr A A'->E "NoHall" A')
end DP
namespace My
open L2 DP MA
theorem JE(T:TopD K mg "ring" ET tO)(a:aD P w K mg base 13 "hall_shares" pM (aB mg 1 vo))(b:aD P w K mg base 5 "find_ring" sZ (aB mg 1 zY)):aD P w K mg base 14 "ring" tO (aB mg 1 zX):=by
 refine bW T Ph λf y g z nd=>⟨_,(aH (aT (dL b f g (aa (dL a f g (aa (vr 0) ah)) ah)))),λds A R h hl=>?_⟩;obtain⟨x,i,rfl,j,k,l⟩:=h;refine⟨rfl,x,rfl,j,λm n o q c r l1=>?_,λs o c=>l s _ c⟩;obtain⟨hok,t,u⟩:=k m n;exact⟨rfl,q,_,i,rfl,r,hok,λe v d=>t e _ (c.trans d),λss e v p d h2 l2=>u ss e _ _ (c.trans d) h2 (by have:=c.len;omega)⟩
end My
namespace DP
open L2 MA
def u0(Ts:List Tb)(a b:Str):Prop:=∃T∈Ts,a∈af T/\b∈af T
inductive ou(Ts:List Tb):Str->Str->Prop
 |refl (a:Str):ou Ts a a
 |step {a b c:Str}:ou Ts a b->u0 Ts b c->ou Ts a c
inductive kD(Ts:List Tb):Str->List aN->Str->Prop
 |nil (a:Str):kD Ts a [] a
 |snoc {a b:Str} {l:List aN} {s:aN}:kD Ts a l s.2.1->cS Ts s->s.2.2=b->kD Ts a (l++[s]) b
theorem kD.Ol{c:List Tb}{a b:Str}{l:List aN}(h:kD c a l b):ou c a b:=by
 induction h with
 |nil=>exact .refl _
 |snoc _ d e f=>
  obtain⟨T,h1,h2,g⟩:=d;exact .step f ⟨T,dw h1,h2,by rw[<-e];exact g⟩
structure Cs(Ts:List Tb)(w:Str->Rat):Prop where
 pos:∀n,0<w n
 eq:∀T∈Ts,∀a∈af T,∀b∈af T,w a*au T b=w b*au T a
theorem lz{x:Rat}(h:0<x):x≠0:=λe=>by rw[e] at h;exact absurd h (by decide)
theorem E_{a:List Tb}{w:Str->Rat}(c:∀T∈a,f6 T)(h:Cs a w){s:aN}(d:cS a s):dQ a s*w s.2.1=w s.2.2:=by
 obtain⟨T,h1,h2,f⟩:=d;have b:=dw h1;have e:=h.eq T b _ h2 _ f;have g:=lz (p7 (c T b) h2).pos;unfold dQ;rw[iu h1,iu h1];grind
theorem G_{c:List Tb}{w:Str->Rat}(d:∀T∈c,f6 T)(h:Cs c w){a b:Str}{l:List aN}(hc:kD c a l b):eN c l*w a=w b:=by
 induction hc with
 |nil=>exact Rat.one_mul _
 |snoc hc f e g=>
  rw[qW,<-e,<-E_ d h f,<-g];grind
def kC(t c:Nat)(A A':Ar):Prop:=∀q x,q≠t->q≠c->A[q]?=some x->A'[q]?=some x
theorem kC.trans{t c:Nat}{A B C:Ar}(a:kC t c A B)(b:kC t c B C):kC t c A C:=λq x h1 h2 h=>b q x h1 h2 (a q x h1 h2 h)
theorem bS.two{t c:Nat}{A A':Ar}(b:bS t A A'):kC t c A A':=λq x h1 _ h=>b q x h1 h
def mJ:Nat->Nat
 |0=>0
 |d+1=>5+2*mJ d
def N5:List Str:=["a","b","c","d","e"]
structure Fw(m:M):Prop where
 arms:m.arms
 deep:m.deep<=2
 nd:m.names.Nodup
 sub:∀x∈m.names,x∈N5
theorem nj:∀n∈N5,Nm n:=λn a=>by
 simp only[N5,cu,gK,gM] at a;rcases a with rfl|rfl|rfl|rfl|rfl<;>exact⟨by decide+kernel,by decide+kernel,by decide+kernel⟩
theorem Fw.wf{m:M}(h:Fw m):Wf m:=⟨h.arms,λx a=>nj x (h.sub x a)⟩
def GF(d:Nat):Ct:=λds A R _=>∃ns t c n ls,ds=[.fl ns,.ref t,.ref c,.int ((d:Int) - 1)]/\0<d/\t≠c/\Tw t n A/\n+mJ d<=1000000/\A[c]?=some (.lst (ls.map D.str))/\ls≠[]/\ls.length<=10/\(∀x∈ls,Nm x)/\
 ∀m A' ls',m.arms->m.deep<d->(m.names++ls').Perm ls->kC t c A A'->Tw t (n+mJ d) A'->A'[c]?=some (.lst (ls'.map D.str))->R (enc m) A'
def zV(e:Nat):Ct:=λds A R E=>∃d,d<=e/\GF d ds A R E
def zI:Ct:=λds A R _=>∃ns t n,ds=[.fl ns,.ref t]/\Tw t n A/\n+300<=1000000/\∀(ms:List M) A',1<=ms.length->ms.length<=6->(∀m∈ms,Fw m)->Dr t A A' n 300->R (.tup (ms.map enc)) A'
end DP
namespace My
open L2 DP MA
theorem Jx(T:TopD K mg "_law_of" Ep sQ)(l:mg "len"=none)(m:mg "range"=none)(a:aD P w K mg base 3 "_law_draw" lE (aB mg 3 mG))(g:aD P w K mg base 4 "_law_pick" nu (aB mg 3 oA)):∀e,aD P w K mg base (e+4) "_law_of" sQ (aB mg 4 (zV e)):=by
 intro e;induction e with
 |zero=>
  refine o4 T λds A R RE h=>?_;obtain⟨d,hd,ns,t,c,n,k,_,h,_⟩:=h;omega
 |succ e b=>
  refine jv T EX rfl (by decide) λN RE f cdv B outer s H E I hR u ds A R h hl=>?_;have hu:=I.units;have nd:=EX.nd;refine⟨_,(aE (cz (PW.pt (fy (jh hu (vr 3) ao) (f_ (yN (dW eY eu l fk (aa (vr 2) ah)) ao)))) (aH (aT (cg (aa bG (aa (gX iz PySem.F.slot_list_pop PySem.F.type_list_pop L8 HX (vr 2) (aa (dL a I u (aa (vr 0) (aa (vr 1) (aa (dW eY eu l fk (aa (vr 2) ah)) ah)))) ah)) ah))))) cE)
  (aE (v8 none (own:=["_law_k"]) (frees:=["_law_script","_law_town"]) (ix:=[0,1]) (i:=4) nd rfl (by first|exact Or.inl rfl|exact Or.inr rfl) rfl (mT m (aa ao ah)) (λc=>(pG 0 (show(["_law_k","_law_script","_law_town"]:List Str).Nodup by decide+kernel))) (λc=>(c8 ao (dL a I pR (aa (vr 1) (aa (vr 2) (aa (dL g I pR (aa (vr 1) (aa (vr 2) (aa (bK (aa ao (aa ao (aa ao (aa ao ah))))) ah)))) ah)))))))
  (aE (dS 5 nd (dL b I u (aa (vr 0) (aa (vr 1) (aa (vr 2) (aa (mQ (vr 3) ao) ah))))))
  (aE (cz (jh hu (vr 2) (bK ah)) (aH (aT (vr 5))) cE)
  (aH (aT (cg (aa bG (aa (dX hu (vr 4) ao) (aa (dX hu (vr 4) ao) (aa (vr 5) (aa (dL b I u (aa (vr 0) (aa (vr 1) (aa (vr 2) (aa (mQ (vr 3) ao) ah))))) ah)))))))))))),?_⟩
  obtain⟨d0,hd0,ns,t,c,n,ls,rfl,hd1,o,ht,hn,L,M,O,S,q⟩:=h;obtain⟨d,rfl⟩:∃d,d0=d+1:=⟨d0 - 1,by omega⟩;have hz:(1000000:Nat)<sizeLine:=by decide
  have hcs:mJ (d+1)=5+2*mJ d:=rfl;have U:((d+1:Nat):Int) - 1=(d:Int):=by omega
  have l0:0<ls.length:=uW.mpr M;have V:(ls.map D.str).length=ls.length:=aR ..;refine cD (λc0=>?lA) (λc0=>gI L (cD (λc2=>?lB) (λc2=>?rd)));case rd=>
   have W:0<d:=by
    have c0:¬(((d+1:Nat):Int) - 1=0):=c0;omega
   have p:∀(x0:D) (J:Ar) (n2:Nat) (Q:DK),Tw t n2 J->n2+2<=1000000->(∀(most:Int) (G:Ar),1<=most->most<=9->bS t J G->Tw t (n2+2) G->Q (.int most) G)->dm qO (dC (D.int 1)) (oQ 3 mG xW (aO (dh 1) (aO (dh 2) (aO (oQ 3 oA xW (aO (dh 1) (aO (dh 2) (aO (fF (aO (dC (D.int 1)) (aO (dC (D.int 2)) (aO (dC (D.int 2)) (aO (dC (D.int 9)) bT))))) bT)))) bT)))) [some x0,some (.fl ns),some (.ref t)] J Q:=by
    intro x0 J n2 Q t2 hn2 hQ;obtain⟨RZ,Kw,_⟩:=id t2;have l2:=bU Kw;refine⟨show 4<=sizeLine by decide,rfl,ns,t,_,[.int 1,.int 2,.int 2,.int 9],n2,rfl,by omega,aG,by simp,t2.gr Gr.push,by omega,λx G u b3 t3=>?_⟩;obtain⟨most,rfl,m0,m9⟩:∃k:Int,x=.int k/\1<=k/\k<=9:=by
     simp at u;rcases u with h|h|h<;>exact⟨_,h,by omega,by omega⟩
    refine⟨rfl,ns,t,most,n2+1,rfl,t3,by omega,by omega,λi A4 i0 i1 b4 t4=>?_⟩;exact hQ (1+i) A4 (by omega) (by omega) ((Gr.push.but.trans b3).trans b4) t4
   refine⟨by decide,by decide,trivial,p _ A n _ ht (by omega) λa1 J u1 u2 b2 t2=>⟨show 0<sizeLine by decide,trivial,p _ J (n+2) _ t2 (by omega) λa2 G u3 u4 b3 t3=>⟨show 1<sizeLine by decide,trivial,?_⟩⟩⟩;have X:bS t A G:=b2.trans b3;have t4:=t3.gr (Gr.push (T:=[C.lst [D.int a1,D.int a2]]));have h4:=aG (A:=G) (c:=C.lst [D.int a1,D.int a2]);obtain⟨xt,KA,_⟩:=id t3;have LQ:=bU KA;have c3:=X c _ (Ne.symm o) L;have RB:=bU c3;have c4:=getElem?_push (T:=[C.lst [D.int a1,D.int a2]]) c3;have e4:[]++[D.int a1]++[D.int a2]=[D.int a1,D.int a2]:=rfl;rw[e4];have GP:kC t c A (G++[C.lst [D.int a1,D.int a2]]):=(X.trans Gr.push.but).two;refine⟨rfl,d,by omega,ns,t,c,n+2+2,ls,show [D.fl ns,D.ref t,D.ref c,D.int (((d+1:Nat):Int) - 1 - 1)]=_ by rw[U],W,o,t4,by omega,c4,M,O,S,λm1 A5 gn w1 d1 p1 b5 t5 c5=>?_⟩;have Y:∀x∈gn,Nm x:=λx u=>S x (p1.mem_iff.mp (gP _ u));refine⟨cV _,IM c5 (tU _) (by rw[tX];exact rY _ Y) ?_⟩;have r:Gr A5 (A5++[C.lst []]):=Gr.push;generalize (A5++[C.lst []]:Ar)=A6 at r ⊢;have Z:=(GP.trans b5).trans r.but.two;have B0:=r.get (b5 G.length _ (by omega) (by omega) h4);have t6:=t5.gr r;have c6:=r.get c5;refine cD (λcn=>?_) (λcn=>?_)
   .have:gn=[]:=List.map_eq_nil_iff.mp cn
    subst this;exact q m1 _ [] w1 (by omega) p1 Z (t6.mono (by omega)) c6
   .have ne1:gn≠[]:=λz=>cn (by rw[z];rfl)
    have l1:gn.length<=10:=by
     have:=p1.length_eq;rw[dI] at this;omega
    refine fB B0 (v:=.int a1) rfl ?_;refine fB B0 (v:=.int a2) rfl ?_;refine⟨rfl,d,by omega,ns,t,c,_,gn,show [D.fl ns,D.ref t,D.ref c,D.int (((d+1:Nat):Int) - 1 - 1)]=_ by rw[U],W,o,t6,by omega,c6,ne1,l1,Y,λm2 A7 iL w2 d2 p2 b7 t7 c7=>?_⟩;refine⟨show 5<=sizeLine by decide,q (.dF a1 a2 m1 m2) _ iL ⟨u1,u2,u3,u4,w1,w2⟩ (show max m1.deep m2.deep+1<d+1 by omega) ?_ (Z.trans b7) (t7.mono (by omega)) c7⟩;show((m1.names++m2.names)++iL).Perm ls;rw[append_assoc];exact(Perm.append_left _ p2).trans p1
  all_goals
   refine⟨gZ L,gI L ⟨rfl,ns,t,_,n,rfl,ht,by omega,by rw[V];omega,λi A1 i0 i1 b1 t1=>?_⟩⟩;rw[V] at i1;obtain⟨j,rfl⟩:∃j:Nat,i=(j:Int):=⟨i.toNat,by omega⟩;have hj:j<ls.length:=by omega
   have wR:=b1 c _ (Ne.symm o) L;refine NI wR (k:=j) (y:=.str ls[j]) rfl (by omega) (by rw[bH,bO hj];rfl) ?_;have u:ls[j]∈ls:=getElem_mem hj;refine⟨show 2<=sizeLine by decide,q (.wt ls[j]) _ (ls.eraseIdx j) trivial (succ_pos _) ?_ (λq x h1 h2 h=>by rw[fm (Ne.symm h2)];exact b1 q x h1 h) ?_ ?_⟩
   .show([ls[j]]++ls.eraseIdx j).Perm ls
    exact(SS.Dm ls j _ (bO hj)).symm
   .obtain⟨xs,hx',hl'⟩:=t1
    exact⟨xs,by rw[fm (Ne.symm o)];exact hx',by omega⟩
   .rw[fu (bU wR)]
    rw[uM,uM,cX,map_take,map_drop]
theorem Jg(T:TopD K mg "_law_hall" Ej sM)(p:mg "list"=none)(l:mg "range"=none)(o:mg "tuple"=none)(f:aD P w K mg base 3 "_law_draw" lE (aB mg 3 mG))(g:aD P w K mg base 4 "_law_pick" nu (aB mg 3 oA))(j:aD P w K mg base 7 "_law_of" sQ (aB mg 4 (zV 3))):aD P w K mg base 8 "_law_hall" sM (aB mg 2 zI):=by
 refine bW T OR λN hR u hu nd=>⟨_,(aE (dS 2 nd (bK (aa bG (aa bG (aa bG (aa bG (aa bG ah)))))))
  (aE (dS 3 nd (bK ah))
  (aE (eB dO rfl (mT l (aa (c8 ao (dL f N u (aa (vr 0) (aa (vr 1) (aa ao ah))))) ah)) (dG 4 nd) (aE (dS 5 nd (gW G7 HR p jk (aa (vr 2) ah)))
  (aE (dS 6 nd (dL g N u (aa (vr 0) (aa (vr 1) (aa (bK (aa ao (aa ao (aa ao (aa ao ah))))) ah)))))
  (aH (gm (gX iz lW l9 j5 kN (vr 3) (aa (dL j N u (aa (vr 0) (aa (vr 1) (aa (vr 5) (aa (vr 6) ah))))) ah)))))))
  (aH (aT (gW Ao AQ o boot_tuple (aa (vr 3) ah))))))),λds A R h hl=>?_⟩
 obtain⟨ns,t,n,rfl,ht,hn,q⟩:=h;have hz:(1000:Nat)<=sizeLine:=by decide
 obtain⟨xt,O,_⟩:=id ht;have LO:=bU O;have e5:[D.str "a",D.str "b",D.str "c",D.str "d",D.str "e"]=N5.map D.str:=rfl;refine⟨show 5<=sizeLine by decide,cV _,rfl,ns,t,6,n,rfl,(ht.gr Gr.push).gr Gr.push,by omega,by decide,λi A1 i0 i6 Q t1=>?_⟩;have S:(A++[C.lst (N5.map D.str)]++[C.lst []])[A.length]?=some (.lst (N5.map D.str)):=getElem?_push aG;have U:(A++[C.lst (N5.map D.str)]++[C.lst []])[(A++[C.lst (N5.map D.str)]).length]?=some (.lst []):=aG;have la:(A++[C.lst (N5.map D.str)]).length=A.length+1:=by simp
 have V:=Q _ _ (by omega) S;have F:=Q _ _ (by omega) U;have W:bS t A A1:=(Gr.push.but.trans Gr.push.but).trans Q;rw[la] at F;obtain⟨k,rfl⟩:∃k:Nat,i=(k:Int):=⟨i.toNat,by omega⟩;refine⟨by omega,by omega,?_⟩;rw[show(A++[C.lst [D.str "a",D.str "b",D.str "c",D.str "d",D.str "e"]]).length=A.length+1 by simp];refine d_ (λrest τ A'=>∃(r:List M) (a b c:Option D),τ=[some (.fl ns),some (.ref t),some (.ref A.length),some (.ref (A.length+1)),a,b,c]/\rest.length+r.length=k+1/\bS t A A'/\Tw t (n+1+40*r.length) A'/\A'[A.length]?=some (.lst (N5.map D.str))/\A'[A.length+1]?=some (.lst (r.map enc))/\∀m∈r,Fw m) ?_ ?_ ?_ _ _ _ ⟨[],none,none,none,rfl,by simp[dP];omega,W,t1,V,F,λm h=>by cases h⟩
 .intro _ _ _ _
  trivial
 .rintro v rest τ y ⟨r,a,b,c,rfl,e,X,L,z,s,B⟩ Nx hN
  simp at e;refine LN z ?_;have Y:(y++[C.lst (N5.map D.str)])[y.length]?=some (.lst (N5.map D.str)):=aG;have l2:=bU s;obtain⟨R0,G,_⟩:=id L;have LP:=bU G;have g3:Gr y (y++[C.lst (N5.map D.str)]):=Gr.push;refine⟨show 4<=sizeLine by decide,rfl,ns,t,_,[.int 0,.int 1,.int 1,.int 2],_,rfl,by simp;omega,aG,by simp,(L.gr g3).gr Gr.push,by omega,λx A4 u b4 t4=>?_⟩;obtain⟨d,rfl,d2⟩:∃d:Nat,x=.int (((d+1:Nat):Int) - 1)/\d<=2:=by
   simp at u;rcases u with rfl|rfl|rfl
   .exact⟨0,by simp,by omega⟩
   .exact⟨1,by simp,by omega⟩
   .exact⟨2,by simp,by omega⟩
  have E:bS t y A4:=(g3.but.trans Gr.push.but).trans b4;have Z:=b4 y.length _ (by omega) ((Gr.push (T:=[C.lst [D.int 0,D.int 1,D.int 1,D.int 2]])).get Y);have H:=E _ _ (by omega) s;have Kp:=E _ _ (by omega) z;have cs:mJ (d+1)<=35:=by
   have:d=0\/d=1\/d=2:=by omega
   rcases this with rfl|rfl|rfl<;>decide
  have n5:N5.length=5:=rfl;refine⟨gZ H,rfl,d+1,by omega,ns,t,y.length,_,N5,rfl,by omega,by omega,t4,by omega,Z,by simp[N5],by omega,nj,λm A5 ls' ma md mp b5 t5 c5=>?_⟩;have I:=b5 _ _ (by omega) (by omega) H;have Kq:=b5 _ _ (by omega) (by omega) Kp;have fw:Fw m:=⟨ma,by omega,?_,λx u=>mp.mem_iff.mp (mC _ u)⟩
  .refine kH I (by rw[aR];omega) ?_
   have J:∀(A':Ar) (k:Nat),Tw t k A'->Tw t k (A'.set (A.length+1) (.lst (r.map enc++[enc m]))):=λA' k ⟨xs,h1,h2⟩=>⟨xs,by rw[fm (by omega)];exact h1,h2⟩;refine hN _ _ ⟨r++[m],_,_,_,rfl,by simp;omega,λq c hq h=>?_,?_,?_,?_,λm' hm'=>?_⟩
   .have:=bU h
    rw[fm (by omega)];exact b5 q c hq (by omega) (E q c hq (X q c hq h))
   .exact(J _ _ t5).mono (by simp;omega)
   .rw[fm (by omega)]
    exact Kq
   .rw[fu (bU I),cX]
    rfl
   .rcases ck.mp hm' with h|h
    .exact B m' h
    .rw[b_.mp h];exact fw
  .have:(m.names++ls').Nodup:=mp.nodup_iff.mpr (by decide+kernel)
   exact(qk.mp this).1
 .rintro τ y ⟨r,a,b,c,rfl,e,X,L,z,s,B⟩
  simp at e;refine Fq s ?_;exact q r _ (by omega) (by omega) B ⟨X,L.mono (by omega)⟩
end My
namespace DP
open L2 MA
def Dk(k:Nat)(d:D):Prop:=ie d=true/\(toQ d).canLay0=true/\(toQ d).depth<=k
theorem rq{k:Nat}:∀{xs:List D},(∀d∈xs,Dk k d)->gu xs=true/\canLayAll0 (bX xs)=true/\depthAll (bX xs)<=k
 |[],_=>⟨rfl,rfl,by simp[bX,depthAll]⟩
 |d::xs,h=>by
  obtain⟨a1,a2,e⟩:=h d (cR ..);obtain⟨a,b,f⟩:=rq λx c=>h x (cj _ c);refine⟨by show(ie d&&gu xs)=true;rw[a1,a];rfl,?_,?_⟩
  .simp[bX,canLayAll0,a2,b]
  .simp only[bX,depthAll]
   omega
theorem Bj{k:Nat}{xs:List D}(h:∀d∈xs,Dk k d):Dk (k+1) (.tup xs):=by
 obtain⟨a,b,c⟩:=rq h;refine⟨a,?_,?_⟩
 .show canLay0 (.tuple (bX xs))=true
  simpa[canLay0] using b
 .show PyData.depth (.tuple (bX xs))<=k+1
  simp only[PyData.depth];omega
theorem Bh{s:Str}(h:canLay0 (.str s)=true){k:Nat}:Dk k (.str s):=⟨rfl,h,by simp[toQ,PyData.depth]⟩
theorem vZ{i:Int}{k:Nat}:Dk k (.int i):=⟨rfl,by simp[toQ,canLay0],by simp[toQ,PyData.depth]⟩
theorem Ir{k:Nat}{a b:D}(c:Dk k a)(e:Dk k b):Dk (k+1) (.tup [a,b]):=Bj λd hd=>by
 rcases cu.mp hd with rfl|hd
 .exact c
 .rw[b_.mp hd];exact e
end DP
namespace My
open L2 DP MA
theorem Jt(T:TopD K mg "_law_leaves" Em sO):∀d,aD P w K mg base (d+1) "_law_leaves" sO (aB mg 2 (zP d)):=by
 intro d;induction d with
 |zero=>
  refine o4 T λds A R RE h=>?_;obtain⟨v,⟨m,w,_,h,_⟩,_⟩:=h;omega
 |succ d c=>
  refine jv T OU rfl (by decide) λN RE f k B outer s H E g t i ds A R h hl=>?_;have e:=g.units;refine⟨_,(aE (cz (jh e (dX e (vr 0) ao) bG) (aH (aT (bK (aa (cg (aa (vr 1) (aa (dX e (vr 0) ao) ah))) ah)))) cE)
  (aH (aT (c8 (dL c g i (aa (dX e (vr 0) ao) (aa (c8 (vr 1) bG) ah))) (dL c g i (aa (dX e (vr 0) ao) (aa (c8 (vr 1) bG) ah))))))),?_⟩
  obtain⟨v,⟨m,w,rfl,hd,u,z,rfl⟩,q⟩:=h;have C:(100:Nat)<=sizeLine:=by decide
  cases m with
  |wt n=>exact⟨by show 2<=sizeLine;omega,by show 1<=sizeLine;omega,q _ _ Gr.push aG⟩
  |dF l r a b=>
   have o:max a.deep b.deep+1<d+1:=hd;have D:("l":Str).length=1:=by decide+kernel
   have F:("r":Str).length=1:=by decide+kernel
   have al:∀x y:Str,(x++y).length=x.length+y.length:=λx y=>Array.size_append;refine⟨by omega,rfl,_,⟨a,_,rfl,by omega,by rw[al];omega,by omega,rfl⟩,λG I p h1=>?_⟩;refine⟨by omega,rfl,_,⟨b,_,rfl,by omega,by rw[al];omega,by omega,rfl⟩,λJ L j h2=>?_⟩;have n1:=bY.ly a;have n2:=bY.ly b;have M:2 ^ a.deep<=2 ^ 8:=gy (by decide) (by omega);have p2:2 ^ b.deep<=2 ^ 8:=gy (by decide) (by omega);have hz:(512:Nat)<=sizeLine:=by decide
   refine iJ (j.get h1) h2 (by rw[aR,aR,xN,xN];omega) (q _ _ ((p.trans j).trans Gr.push) ?_);rw[aG];simp[k_]
end My
namespace DP
open L2 MA
theorem xu{α β:Type}{f:α->β}:∀{l:List α},(l.map f).Nodup->∀a∈l,∀b∈l,f a=f b->a=b
 |[],_,a,ha,_,_,_=>by cases ha
 |x::l,h,a,ha,b,hb,e=>by
  obtain⟨h1,h2⟩:=ki.mp (show(f x::l.map f).Nodup from h);rcases cu.mp ha with c|ha<;>rcases cu.mp hb with d|hb
  .rw[c,d]
  .exact absurd (by rw[<-c,e];exact gw hb) h1
  .exact absurd (by rw[<-d,<-e];exact gw ha) h1
  .exact xu h2 a ha b hb e
theorem Fw.hl{m:M}(h:Fw m):Hl m:=⟨h.wf,by have:=h.deep;omega,AE _ [] λa c b d e=>by
 rw[gx] at c d;have nd:((bM m "" 1).map (·.2.1)).Nodup:=by rw[nC];exact h.nd
 rw[xu nd a c b d e]⟩
theorem rJ{b:List M}(e:b.length<=6)(h:∀m∈b,Fw m):gh (b.map aF) N5:=by
 refine⟨by rw[aR];omega,λT c=>?_,by decide,λT c n d=>?_⟩
 .obtain⟨m,a,rfl⟩:=br.mp c
  exact(nG (h m a).hl).1
 .obtain⟨m,a,rfl⟩:=br.mp c
  exact(h m a).sub n (((nG (h m a).hl).2.1 n).mp d)
theorem K2{a:List M}(h1:1<=a.length)(b:a.length<=6)(h:∀m∈a,Fw m):gS (.tup (a.map enc)) a:=⟨rfl,h1,b,λm c=>(h m c).hl⟩
theorem B8{b a:List M}(h:gS (.tup (b.map enc)) a):a=b:=(Br (D.tup.inj h.1)).symm
theorem Dy{j k:Nat}(h:j<=k):(9:Int) ^ j<=9 ^ k:=pU (c:=9) (by decide) h
theorem yz:∀(m:M) (x:Rat) (B:Int),m.arms->0<x->(rf x).1<=B->∀s∈m.sh x,(rf s).1<=B*9 ^ m.deep
 |.wt _,x,B,_,h1,h2,s,hs=>by
  have:s=x:=by simpa[bY.sh] using hs
  subst this;simpa[bY.deep] using h2
 |.dF l r a b,x,B,h,h1,h2,s,hs=>by
  obtain⟨c,p,d,q,e,f⟩:=h;have g:0<B:=nN (cT h1) h2;have np:=cT h1;have i:(rf (x*((r:Rat)/((l+r:Int):Rat)))).1<=B*9:=by
   refine fj (num_mul (by omega) (nL (by omega) (by omega))) ?_;exact dc h2 (by omega) (by omega) (by omega)
  have j:(rf (x*((l:Rat)/((l+r:Int):Rat)))).1<=B*9:=by
   refine fj (num_mul (by omega) (nL (by omega) (by omega))) ?_;exact dc h2 (by omega) (by omega) (by omega)
  have n:0<x*((r:Rat)/((l+r:Int):Rat)):=bY.step_pos c d h1;have p2:0<x*((l:Rat)/((l+r:Int):Rat)):=by
   have:=bY.step_pos (l:=r) (r:=l) d c h1;rwa [add_comm r l] at this
  have up:∀k:Nat,k<=max a.deep b.deep->B*9*9 ^ k<=B*9 ^ (max a.deep b.deep+1):=λk o=>by
   rw[jI,mul_assoc,mul_comm 9 (9 ^ k)];refine qp ?_ (eK g);exact yZ (Dy o) (by decide)
  rcases ck.mp (show s∈a.sh _++b.sh _ from hs) with hs|hs
  .exact fj (yz a _ _ e n i s hs) (up _ (qy _ _))
  .exact fj (yz b _ _ f p2 j s hs) (up _ (qz _ _))
theorem Fw.sh{m:M}(h:Fw m){n:Str}(b:n∈m.names):0<shr m n/\(rf (shr m n)).1<=81/\(rf (shr m n)).2<=324:=by
 have a:shr m n∈m.sh 1:=by
  rw[<-(yC h.hl.bar).2];exact gw b
 obtain⟨c,d⟩:=bY.ue m 1 1 h.arms (by decide) (by decide) _ a;have e:=yz m 1 1 h.arms (by decide) (by decide) _ a;have p:=nA h.deep;have q:=Dy h.deep;rw[one_mul] at d e;have f:(18:Int) ^ 2=324:=by decide
 have g:(9:Int) ^ 2=81:=by decide
 exact⟨c,by omega,by omega⟩
theorem PC{a:List M}(h:∀m∈a,Fw m){s:aN}(i:cS (a.map aF) s):0<dQ (a.map aF) s/\(rf (dQ (a.map aF) s)).1<=26244/\(rf (dQ (a.map aF) s)).2<=26244:=by
 obtain⟨T,h1,h2,f⟩:=i;unfold dQ;rw[iu h1,iu h1];obtain⟨m,c,rfl⟩:=br.mp (dw h1);have b:=nG (h m c).hl;rw[b.2.2 _ h2,b.2.2 _ f];obtain⟨d,j,k⟩:=(h m c).sh ((b.2.1 _).mp h2);obtain⟨e,l,n⟩:=(h m c).sh ((b.2.1 _).mp f);have p2:=cT d;have o:=cT e;have g:=cP (shr m s.2.1);have p:=cP (shr m s.2.2);refine⟨by rw[Rat.div_def];exact lY e (Rat.inv_pos.mpr d),?_⟩;rw[rj e d];obtain⟨k1,k2⟩:=t9 (cJ o g) (cJ p p2);have q:(rf (shr m s.2.2)).1*(rf (shr m s.2.1)).2<=81*324:=dc l k (eK g) (by decide);have r:(rf (shr m s.2.2)).2*(rf (shr m s.2.1)).1<=324*81:=dc n j (eK p2) (by decide);exact⟨by omega,by omega⟩
def oz:Ct:=qL
def z0(d:Nat):Ct:=λds A R _=>∃(m:M) (u v:Int),ds=[enc m,.int u,.int v]/\m.arms/\m.deep<d/\d<=4/\0<u/\0<v/\u<=9 ^ (4 - d)/\v<=18 ^ (4 - d)/\∀(A':Ar) (q:Nat),Gr A A'->A'[q]?=some (.lst ((m.sh ((u:Rat)/(v:Rat))).map fq))->R (.ref q) A'
def cK(A:Ar):List Nat->List Tb->Prop
 |[],[]=>True
 |t::ts,T::Ts=>A[t]?=some (.dct (aU T))/\cK A ts Ts
 |_,_=>False
def nY(A:Ar)(r:Nat)(Ts:List Tb):Prop:=∃ts,A[r]?=some (.lst (ts.map D.ref))/\cK A ts Ts
theorem cK.gr{A B:Ar}(g:Gr A B):∀{ts:List Nat} {a:List Tb},cK A ts a->cK B ts a
 |[],[],_=>trivial
 |_::_,_::_,h=>⟨g.get h.1,cK.gr g h.2⟩
 |[],_::_,h=>h.elim
 |_::_,[],h=>h.elim
theorem cK.len{A:Ar}:∀{ts:List Nat} {a:List Tb},cK A ts a->ts.length=a.length
 |[],[],_=>rfl
 |_::_,_::_,h=>by simp[cK.len h.2]
 |[],_::_,h=>h.elim
 |_::_,[],h=>h.elim
theorem cK.snoc{A:Ar}{t:Nat}{T:Tb}(a:A[t]?=some (.dct (aU T))):∀{ts:List Nat} {b:List Tb},cK A ts b->cK A (ts++[t]) (b++[T])
 |[],[],_=>⟨a,trivial⟩
 |_::_,_::_,h=>⟨h.1,cK.snoc a h.2⟩
 |[],_::_,h=>h.elim
 |_::_,[],h=>h.elim
theorem cK.get{A:Ar}:∀{ts:List Nat} {a:List Tb} {i t:Nat},cK A ts a->ts[i]?=some t->∃T,a[i]?=some T/\A[t]?=some (.dct (aU T))
 |[],[],i,t,_,h=>by simp at h
 |t'::ts,T::a,0,t,h,e=>by simp at e;subst e;exact⟨T,rfl,h.1⟩
 |t'::ts,T::a,i+1,t,h,e=>by
  obtain⟨b,h1,h2⟩:=cK.get h.2 (show ts[i]?=some t by simpa using e);exact⟨b,by simpa using h1,h2⟩
 |[],_::_,_,_,h,_=>h.elim
 |_::_,[],_,_,h,_=>h.elim
theorem cK.cons{A:Ar}{t:Nat}{ts:List Nat}{b:List Tb}(h:cK A (t::ts) b):∃T a,b=T::a/\A[t]?=some (.dct (aU T))/\cK A ts a:=by
 cases b with
 |nil=>exact h.elim
 |cons T a=>exact⟨T,a,rfl,h.1,h.2⟩
def ow:Ct:=λds A R _=>∃ms:List M,ds=[.tup (ms.map enc)]/\ms.length<=6/\(∀m∈ms,Fw m)/\∀(A':Ar) (q:Nat),Gr A A'->nY A' q (ms.map aF)->A.length<=q->R (.ref q) A'
end DP
namespace My
open L2 DP MA
theorem Js(T:TopD K mg "_law_least" El lG):aD P w K mg base 1 "_law_least" lG (aB mg 2 oz):=by
 refine bW T OT λu z B C nd=>⟨_,(aE (Bl (i:=2) (j:=3) rfl nd rfl rfl (by decide) rfl rfl (aa (vr 0) (aa (vr 1) ah)) rfl)
  (aE (wc dO (Fi (vr 3) ao) (aH (Bl (i:=2) (j:=3) rfl nd rfl rfl (by decide) rfl rfl (aa (vr 3) (aa (mO (vr 2) (vr 3)) ah)) rfl)))
  (aH (aT (cg (aa (ri (vr 0) (vr 2)) (aa (ri (vr 1) (vr 2)) ah))))))),λds A R h hl=>?_⟩
 obtain⟨v,⟨a,b,rfl,o,D,hz,rfl⟩,q⟩:=h;have l:0<(Int.gcd a b:Int):=by
  have:=Int.gcd_pos_of_ne_zero_left b (show a≠0 by omega);omega
 have hl:(Int.gcd a b:Int)<=a:=Int.le_of_dvd o (Int.gcd_dvd_left a b);have m:(Int.gcd a b:Int).natAbs.log2<9000:=by
  have h1:(Int.gcd a b:Int).natAbs<2 ^ 2000:=by omega
  have:=(Nat.log2_lt (n:=(Int.gcd a b:Int).natAbs) (k:=2000) (by omega)).mpr h1;omega
 refine⟨λn τ A'=>A'=A/\∃(x y:Int),τ=[some (.int a),some (.int b),some (.int x),some (.int y)]/\0<=x/\0<=y/\Int.gcd x y=Int.gcd a b/\n=y.toNat,⟨_,rfl,a,b,rfl,by omega,by omega,rfl,rfl⟩,?_⟩;rintro n τ A' ⟨rfl,x,y,rfl,h0,h1,f,rfl⟩;refine cD (λc=>?_) (λc=>?_)
 .refine⟨λτ p=>p=A'/\∃(g d:Int),τ=[some (.int a),some (.int b),some (.int g),some (.int d)]/\0<=g/\0<=d/\Int.gcd g d=Int.gcd a b/\d.toNat<y.toNat,λbI A' ⟨e,g,d,h1,h2,r,s,t⟩=>⟨_,t,e,g,d,h1,h2,r,s,rfl⟩,?_⟩
  have m0:=qu x (show y≠0 by omega);have E:=qt x (show 0<y by omega);exact⟨c,rfl,y,x%y,rfl,h1,m0,by rw[BQ h0 c];exact f,by omega⟩
 .have e:y=0:=by omega
  subst e;have ex:(x:Int)=(Int.gcd a b:Int):=by rw[<-f,Int.gcd_zero_right];omega
  subst ex;exact⟨⟨l,m⟩,⟨l,m⟩,show 2<=sizeLine by decide,q _ Gr.refl⟩
theorem JG(T:TopD K mg "_law_shares" Et sS)(g:aD P w K mg base 1 "_law_least" lG (aB mg 2 oz)):∀d,aD P w K mg base (d+2) "_law_shares" sS (aB mg 3 (z0 d)):=by
 intro d;induction d with
 |zero=>
  refine o4 T λds A R RE h=>?_;obtain⟨m,u,v,_,_,h,_⟩:=h;omega
 |succ d e=>
  refine jv T EY rfl (by decide) λN RE f J B outer s H E z hR o ds A R h hl=>?_;have j:=z.units;have nd:=EY.nd;refine⟨_,(aE (cz (jh j (dX j (vr 0) ao) bG) (aH (aT (bK (aa (dL g z o (aa (vr 1) (aa (vr 2) ah))) ah)))) cE)
  (aE (dS 3 nd (c8 (dX j (vr 0) ao) (dX j (vr 0) ao)))
  (aE (dS 4 nd (dL e z o (aa (dX j (vr 0) ao) (aa (dY (vr 1) (dX j (vr 0) ao)) (aa (dY (vr 2) (vr 3)) ah)))))
  (aH (aT (c8 (vr 4) (dL e z o (aa (dX j (vr 0) ao) (aa (dY (vr 1) (dX j (vr 0) ao)) (aa (dY (vr 2) (vr 3)) ah)))))))))),?_⟩
  obtain⟨m,u,v,rfl,L,hd,h4,k,i,p,t,q⟩:=h;have y:∀x:Int,x<=9 ^ 4->x<2 ^ 2000:=λx o=>nV o (nN (show(9 ^ 4:Int)<2 ^ 64 by decide) (by
   have:(2:Nat) ^ 64<=2 ^ 2000:=gy (by decide) (by decide);exact_mod_cast this))
  have hs:(100:Nat)<=sizeLine:=by decide
  have D:(9:Int) ^ (4 - d)=9 ^ (4 - (d+1))*9:=by rw[<-jI];congr 1;omega
  have C:(18:Int) ^ (4 - d)=18 ^ (4 - (d+1))*18:=by rw[<-jI];congr 1;omega
  have q9:(9:Int) ^ (4 - (d+1))<=9 ^ 4:=pU (c:=9) (by decide) (by omega);have O:(18:Int) ^ (4 - d)<=18 ^ 4:=pU (c:=18) (by decide) (by omega);have Q:(18:Int) ^ 4=104976:=by decide
  cases m with
  |wt n=>
   refine⟨rfl,_,⟨u,v,rfl,k,i,y _ (by omega),rfl⟩,λS F=>⟨show 1<=sizeLine by decide,q _ _ (F.trans Gr.push) ?_⟩⟩;rw[tY i];exact aG
  |dF l r a b=>
   obtain⟨F,U,g3,V,W,X⟩:=L;have Y:max a.deep b.deep+1<d+1:=hd;have Z:u*r<=9 ^ (4 - d):=by rw[D];exact dc p V (by omega) (lR (by decide))
   have m2:u*l<=9 ^ (4 - d):=by rw[D];exact dc p U (by omega) (lR (by decide))
   have G:v*(l+r)<=18 ^ (4 - d):=by rw[C];exact dc t (by omega) (by omega) (lR (by decide))
   refine⟨.inr ⟨by omega,by omega⟩,.inr ⟨by omega,by omega⟩,rfl,a,u*r,v*(l+r),rfl,W,by omega,by omega,cJ k (by omega),cJ i (by omega),Z,G,λS r1 k1 h1=>?_⟩;refine⟨.inr ⟨by omega,by omega⟩,.inr ⟨by omega,by omega⟩,rfl,b,u*l,v*(l+r),rfl,X,by omega,by omega,cJ k (by omega),cJ i (by omega),m2,G,λA2 r2 k2 h2=>?_⟩;have n1:=bY.ly a;have n2:=bY.ly b;have p1:2 ^ a.deep<=2 ^ 4:=gy (by decide) (by omega);have p2:2 ^ b.deep<=2 ^ 4:=gy (by decide) (by omega);have I:∀(m:M) (x:Rat),(m.sh x).length=m.names.length:=λm x=>by rw[<-p6 m "" x,aR,lJ]
   refine iJ (k2.get h1) h2 (by rw[aR,aR,I,I];omega) (q _ _ ((k1.trans k2).trans Gr.push) ?_);rw[aG];have e1:((u*r:Int):Rat)/((v*(l+r):Int):Rat)=(u:Rat)/(v:Rat)*((r:Rat)/((l+r:Int):Rat)):=mul_div i (by omega);have e2:((u*l:Int):Rat)/((v*(l+r):Int):Rat)=(u:Rat)/(v:Rat)*((l:Rat)/((l+r:Int):Rat)):=mul_div i (by omega);rw[e1,e2,<-cX];rfl
theorem IZ(T:TopD K mg "_law_books" Ef lD)(l:mg "dict"=none)(n:mg "list"=none)(r:mg "zip"=none)(b:aD P w K mg base 9 "_law_leaves" sO (aB mg 2 (zP 8)))(g:aD P w K mg base 5 "_law_shares" sS (aB mg 3 (z0 3))):aD P w K mg base 10 "_law_books" lD (aB mg 1 ow):=by
 refine bW T ON λX hR Y hu nd=>⟨_,(aE (dS 1 nd (bK ah))
  (aE (eB dO rfl (d9 (vr 0)) (dG 2 nd) (aE (v8 (some 2) (own:=["_law_way","_law_name"]) (frees:=[]) (ix:=[]) (i:=3) nd rfl (by first|exact Or.inl rfl|exact Or.inr rfl) rfl (d9 (dL b X Y (aa (vr 2) (aa bG ah)))) (λc=>(nv rfl (gp (pG 0 (show(["_law_way","_law_name"]:List Str).Nodup by decide+kernel)) (gp (pG 1 (show(["_law_way","_law_name"]:List Str).Nodup by decide+kernel)) ny)))) (λc=>(vr 1)))
  (aH (gm (gX iz lW l9 j5 kN (vr 1) (aa (gW (An rfl) AJ l boot_dict (aa (Ib n r rfl (aa (vr 3) (aa (dL g X Y (aa (vr 2) (aa ao (aa ao ah)))) ah))) ah)) ah))))))
  (aH (aT (vr 1))))),λds A R h hl=>?_⟩
 obtain⟨E,rfl,h6,hF,q⟩:=h;have hz:(1000:Nat)<=sizeLine:=by decide
 refine⟨cV _,?_⟩;refine d_ (λrest τ A'=>∃(x a:List M) (ts:List Nat) (I J:Option D),rest=a.map enc/\x++a=E/\τ=[some (.tup (E.map enc)),some (.ref A.length),I,J]/\A'[A.length]?=some (.lst (ts.map D.ref))/\cK A' ts (x.map aF)/\Gr A A'/\∀t∈ts,t≠A.length) ?_ ?_ ?_ _ _ _ ⟨[],E,[],none,none,rfl,rfl,rfl,aG,trivial,Gr.push,λ_ h=>by cases h⟩
 .intro _ _ _ _
  trivial
 .rintro v rest τ F ⟨x,a,ts,I,J,e,j,rfl,h1,G,L,s⟩ Nx hN
  cases a with
  |nil=>cases e
  |cons m a=>
   cases e;have N:=hF m (by rw[<-j];simp);have ln:=nh (m:=m) (by have:=N.deep;omega);have fd:=N.deep;have lt:=G.len;have ld:=bV List.length j;rw[dI] at ld;rw[aR] at lt;refine⟨rfl,_,⟨m,"",rfl,by omega,by decide+kernel,by decide,rfl⟩,λO q2 Z h2=>?_⟩;refine eO h2 ?_;refine i7 (f:=λd=>match d with|.tup [_,y]=>y|d=>d) h2 _ _ (λd hd=>?_) (by simp[xN];omega) ?_
   .obtain⟨p,hp,rfl⟩:=br.mp hd
    exact⟨[.str p.1,.str p.2],rfl,λQ hQ=>hQ⟩
   have en:((k_ m "").map CN).map (λd=>match d with|.tup [_,y]=>y|d=>d)=m.names.map D.str:=by
    rw[cY,<-sr m "",cY];rfl
   rw[gx,en];have h3:(O++[C.lst (m.names.map D.str)])[O.length]?=some (.lst (m.names.map D.str)):=aG;have S:Gr F (O++[C.lst (m.names.map D.str)]):=Z.trans Gr.push;have Lx:=Z.len;have la:=bU h1;refine⟨gZ (S.get h1),rfl,m,1,1,rfl,N.arms,by omega,by decide,by decide,by decide,by decide,by decide,λz q4 H h4=>?_⟩;refine LS (H.get h3) h4 ?_;have es:m.sh (((1:Int):Rat)/((1:Int):Rat))=(bM m "" 1).map (·.2.2):=by
    rw[p6,show((1:Int):Rat)/((1:Int):Rat)=1 by decide+kernel]
   have ez:((m.names.map D.str).zip ((m.sh (((1:Int):Rat)/((1:Int):Rat))).map fq)).map (λp=>D.tup [p.1,p.2])=(bM m "" 1).map j7:=by
    rw[es,<-nC m "" 1,cY,cY,List.zip_map',cY];rfl
   rw[ez];have e5:=aG (A:=z) (c:=C.lst ((bM m "" 1).map j7));refine AV e5 (yd _) (by simp[lJ];omega) ?_;have ek:aU (aF m)=tV (((bM m "" 1).map λp=>(p.2.1,fq p.2.2)).map λp=>((Sum.inr p.1:Key),p.2)):=xC _ [];rw[<-ek];have U:=aG (A:=z++[C.lst ((bM m "" 1).map j7)]) (c:=C.dct (aU (aF m)));have o:Gr F (z++[C.lst ((bM m "" 1).map j7)]++[C.dct (aU (aF m))]):=((S.trans H).trans Gr.push).trans Gr.push;have l4:=H.len;have lg:F.length<=z.length:=(S.trans H).len;refine kH (o.get h1) (by simp;omega) ?_;refine hN _ _ ⟨x++[m],a,ts++[(z++[C.lst ((bM m "" 1).map j7)]).length],_,_,rfl,by simpa using j,rfl,?_,?_,(L.trans o).set (aI _),λt V=>?_⟩
   .rw[fu (bU (o.get h1)),cX]
    rfl
   .rw[cX]
    have key:∀{ts:List Nat} {u:List Tb} {A B:Ar},cK A ts u->(∀t∈ts,∀c,A[t]?=some c->B[t]?=some c)->cK B ts u:=by
     intro ts;induction ts with
     |nil=>intro u A B h _;cases u with|nil=>trivial|cons _ _=>exact h.elim
     |cons t ts ih=>intro u A B h k;cases u with|nil=>exact h.elim|cons T u=>exact⟨k t (cR ..) _ h.1,ih h.2 λt' W=>k t' (cj _ W)⟩
    refine cK.snoc ?_ (key (G.gr o) λt V c hc=>?_)
    .rw[fm (by simp;omega)]
     exact U
    .rw[fm (Ne.symm (s t V))]
     exact hc
   .rcases ck.mp V with h|h
    .exact s t h
    .rw[b_.mp h]
     simp;omega
 .rintro τ F ⟨x,a,ts,I,J,e,j,rfl,h1,G,L,s⟩
  cases a with
  |cons _ _=>cases e
  |nil=>
   have j:x=E:=by simpa using j
   subst j;exact q _ _ L ⟨ts,h1,G⟩ (aI _)
end My
namespace DP
open L2 MA
structure di(Ts:List Tb)(s:Str)(F:Tb):Prop where
 nd:(af F).Nodup
 st:(s,(1:Rat))∈F
 sub:∀n∈af F,n∈N5
 snd:∀p∈F,∃l,kD Ts s l p.1/\p.2=eN Ts l
 sm:∀(i:Nat) p,F[i]? =some p->0<p.2/\(rf p.2).1<=26244 ^ i/\(rf p.2).2<=26244 ^ i
def jm(Ts:List Tb)(F:Tb):Prop:=∀n∈af F,∀b,u0 Ts n b->b∈af F
theorem di.len{a:List Tb}{s:Str}{F:Tb}(h:di a s F):F.length<=5:=by
 have:=ni (af F) N5 h.nd h.sub;simpa[af,N5] using this
theorem ud{F:Tb}(h:(af F).Nodup){p:Str×Rat}(b:p∈F):au F p.1=p.2:=by
 have h1:=find_some (T:=F) (n:=p.1);rw[cW (show p.1∈F.map (·.1) from gw b)] at h1;obtain⟨q,a⟩:=mq.mp h1;unfold au;rw[a];have h2:=nR a;have e:q=p:=xu h q (iO a) p b (fE h2);exact bV (·.2) e
theorem pC{F:Tb}{n:Str}(h:n∈af F):∃x,(n,x)∈F:=by
 obtain⟨p,a,rfl⟩:=br.mp h;exact⟨p.2,a⟩
theorem di.pos{d:List Tb}{s:Str}{F:Tb}(h:di d s F){p:Str×Rat}(f:p∈F):0<p.2/\(rf p.2).1<=474373168346071296/\(rf p.2).2<=474373168346071296:=by
 obtain⟨i,hi,e⟩:=qx f;have l:=h.len;obtain⟨a,b,c⟩:=h.sm i p (by rw[bO hi,e]);have q:=pU (c:=26244) (by decide) (show i<=4 by omega);have g:((26244:Nat):Int) ^ 4=474373168346071296:=by decide
 rw[g] at q;have q:(26244:Int) ^ i<=474373168346071296:=q;exact⟨a,by omega,by omega⟩
theorem di.start{b:List Tb}{s:Str}(h:s∈N5):di b s [(s,1)]:=by
 refine⟨by simp[af],by simp,λn c=>?_,λp a=>?_,λi p a=>?_⟩
 .have:n=s:=by simpa[af] using c
  rw[this];exact h
 .rw[b_.mp a]
  exact⟨[],.nil _,rfl⟩
 .cases i with
  |zero=>
   cases a;show 0<(1:Rat)/\(rf 1).1<=_/\(rf 1).2<=_;rw[yt];exact⟨by decide,by decide,by decide⟩
  |succ i=>simp at a
theorem N_{T:Tb}{n:Str}{x:Rat}(h:n∉af T):gg T n x=T++[(n,x)]:=by
 unfold gg;rw[ay];intro z;obtain⟨q,a,e⟩:=nP.mp z;exact h (by rw[<-fE e];exact gw a)
theorem QD{c:List Tb}{T:Tb}(d:T∈c){n b:Str}(f:n∈af T)(g:b∈af T):∃s:aN,cS c s/\s.2.1=n/\s.2.2=b/\dQ c s=au T b/au T n:=by
 obtain⟨i,hi,e⟩:=qx d;have a:c[i]?=some T:=by rw[bO hi,e]
 refine⟨(i,n,b),⟨T,a,f,g⟩,rfl,rfl,?_⟩;unfold dQ;rw[iu a,iu a]
theorem di.add{f:List M}(g:∀m∈f,Fw m){s:Str}{F T:Tb}(h:di (f.map aF) s F)(t:T∈f.map aF){n b:Str}{x:Rat}(u:(n,x)∈F)(G:n∈af T)(v:b∈af T)(o:b∉af F):di (f.map aF) s (F++[(b,x*(au T b/au T n))]):=by
 obtain⟨st,k1,k2,k3,w⟩:=QD t G v;obtain⟨q,p2,A⟩:=PC g k1;rw[w] at q p2 A;refine⟨?_,mC _ h.st,λm r=>?_,λp hp=>?_,λi p hp=>?_⟩
 .unfold af
  rw[cX];refine qk.mpr ⟨h.nd,by simp,λy H z hz=>?_⟩;have:z=b:=by simpa using hz
  rw[this];rintro rfl;exact o H
 .have:m∈af F\/m=b:=by simpa[af] using r
  rcases this with r|rfl
  .exact h.sub m r
  .obtain⟨B,d,rfl⟩:=br.mp t
   exact(g B d).sub _ (((nG (g B d).hl).2.1 _).mp v)
 .rcases ck.mp hp with hp|hp
  .exact h.snd p hp
  .rw[b_.mp hp]
   obtain⟨l,c,e⟩:=h.snd _ u;refine⟨l++[st],.snoc (by rw[k2];exact c) k1 k3,?_⟩;rw[qW,w,<-e]
 .by_cases hi:i<F.length
  .rw[gz hi] at hp
   exact h.sm i p hp
  .rw[mh (by omega)] at hp
   have I:i=F.length:=by
    cases e:i - F.length with
    |zero=>omega
    |succ k=>rw[e] at hp;simp at hp
   subst I;simp at hp;subst hp;obtain⟨j,J,K⟩:=qx u;obtain⟨C,L,N⟩:=h.sm j (n,x) (by rw[bO J,K]);have O:=cT C;have xd:=cP x;have D:=cT q;have E:=cP (au T b/au T n);obtain⟨P,Q⟩:=t9 (a:=(rf x).1*(rf (au T b/au T n)).1) (b:=(rf x).2*(rf (au T b/au T n)).2) (cJ O D) (cJ xd E);rw[D4] at P Q;have z:(0:Int)<=26244 ^ j:=lR (by decide);have R:(rf x).1*(rf (au T b/au T n)).1<=26244 ^ j*26244:=dc L p2 (eK D) z;have S:(rf x).2*(rf (au T b/au T n)).2<=26244 ^ j*26244:=dc N A (eK E) z;have up:(26244:Int) ^ (j+1)<=26244 ^ F.length:=pU (c:=26244) (by decide) (by omega);rw[jI] at up;exact⟨lY C q,by show(rf (x*_)).1<=_;omega,by show(rf (x*_)).2<=_;omega⟩
theorem Hg{a:List Tb}{F:Tb}(hc:jm a F){s:Str}(c:s∈af F){b:Str}(h:ou a s b):b∈af F:=by
 induction h with
 |refl=>exact c
 |step _ e d=>exact hc _ d _ e
theorem di.stk{a:List Tb}{s:Str}{F:Tb}(h:di a s F):s∈af F:=br.mpr ⟨_,h.st,rfl⟩
theorem QO{a:List Tb}{s:Str}{F d:Tb}{j:Nat}(h:di a s F)(h':di a s d)(hj:jm a F\/j+1<=F.length)(sub:∀n∈af F,n∈af d)(f:∀T∈a,∀n∈af F,n∈af T->∀b∈af T,b∈af d):jm a d\/j+1+1<=d.length:=by
 by_cases hc:jm a F
 .left
  intro n g b e;obtain⟨x,hx⟩:=pC g;obtain⟨l,c,_⟩:=h'.snd _ hx;exact sub _ (Hg hc h.stk (.step c.Ol e))
 .right
  have:∃n∈af F,∃b,u0 a n b/\b∉af F:=Classical.byContradiction λk=>hc λn g b e=>Classical.byContradiction λz=>k ⟨n,g,b,e,z⟩;obtain⟨n,g,b,⟨T,i,t1,m⟩,o⟩:=this;have l:=ni (b::af F) (af d) (ki.mpr ⟨o,h.nd⟩) λx hx=>by
   rcases cu.mp hx with rfl|hx
   .exact f T i n g t1 _ m
   .exact sub x hx
  simp[af] at l;rcases hj with hj|hj
  .exact absurd hj hc
  .omega
def zJ:Ct:=λds A R _=>∃(ms:List M) (s:Str),ds=[.tup (ms.map enc),.str s]/\ms.length<=6/\(∀m∈ms,Fw m)/\s∈N5/\∀(A':Ar) (q:Nat) (F:Tb),Gr A A'->A'[q]?=some (.dct (aU F))->A.length<=q->di (ms.map aF) s F->jm (ms.map aF) F->R (.ref q) A'
def zW:Ct:=λds A R _=>∃x y:Rat,ds=[fq x,fq y]/\0<x/\0<y/\(rf x).1<=474373168346071296/\(rf x).2<=474373168346071296/\(rf y).1<=81/\(rf y).2<=324/\∀A',Gr A A'->R (fq (x/y)) A'
theorem FA{x y z:Rat}(a:0<x)(b:0<y)(hz:0<z):(((rf x).1*(rf y).1*(rf z).2:Int):Rat)/(((rf x).2*(rf y).2*(rf z).1:Int):Rat)=x*(y/z):=by
 have h1:=iY (ji (cP x));have h2:=iY (ji (cP y));have c:=iY (ji (cP z));have d:=iY (ji (cT hz));conv=>rhs;rw[<-gJ x,<-gJ y,<-gJ z]
 rw[jj,jj,jj,jj];grind
theorem wJ{a b:Int}(c:0<b):D.tup [.int (rd a b).1,.int (rd a b).2]=fq ((a:Rat)/(b:Rat)):=by
 rw[tY c];rfl
theorem Oz{k i:Nat}{v:D}{rest:List D}(h:v::rest=(dP 0 k).drop i):v=.int ((i:Nat):Int)/\rest=(dP 0 k).drop (i+1)/\i<k:=by
 have l:(dP 0 k).length=k:=by simp[dP]
 have hi:i<k:=by
  have:=bV List.length h;rw[mw,l] at this;simp at this;omega
 rw[kB (by omega),List.cons.injEq] at h;refine⟨?_,h.2,hi⟩;rw[h.1];simp[dP]
theorem E7{a:Int}(h:a<=2 ^ 80):a<2 ^ 2000:=nV h (nN (show(2 ^ 80:Int)<2 ^ 81 by decide) (by
 have:(2:Nat) ^ 81<=2 ^ 2000:=gy (by decide) (by decide);exact_mod_cast this))
theorem jG{a:List M}(b:∀m∈a,Fw m){T:Tb}(e:T∈a.map aF){n:Str}(c:n∈af T):0<au T n/\(rf (au T n)).1<=81/\(rf (au T n)).2<=324:=by
 obtain⟨m,d,rfl⟩:=br.mp e;have h:=nG (b m d).hl;rw[h.2.2 n c];exact(b m d).sh ((h.2.1 n).mp c)
end DP
namespace My
open L2 DP MA
theorem Ji(T:TopD K mg "_law_heavy" Ek sN)(G:mg "list"=none)(Q:mg "range"=none)(f:aD P w K mg base 10 "_law_books" lD (aB mg 1 ow))(i:aD P w K mg base 1 "_law_least" lG (aB mg 2 oz)):aD P w K mg base 11 "_law_heavy" sN (aB mg 2 zJ):=by
 refine bW T OS λhr hR hx H nd=>⟨_,(aE (dS 2 nd (dL f hr hx (aa (vr 0) ah)))
  (aE (dS 3 nd (AW (vr 1) (cg (aa ao (aa ao ah)))))
  (aE (eB dO rfl (mT Q (aa ao ah)) (dG 4 nd) (aH (eB dO rfl (d9 (vr 2)) (dG 5 nd) (aH (eB dO rfl (d9 (gW (kJ rfl) kO G jk (aa (vr 3) ah))) (dG 6 nd) (aH (eB dO rfl (d9 (gW (kJ rfl) kO G jk (aa (vr 5) ah))) (dG 7 nd) (aH (cz (PW.pt (we (yM H (vr 6) (vr 5)) (wg (nF H (vr 7) (vr 3))))) (aE (Iv (dX H (vr 3) (vr 6)) (mR rfl (f9 (dG 8 nd) (f9 (dG 9 nd) mS))))
  (aE (dS 10 nd (cg (aa (dY (dY (vr 8) (dX H (dX H (vr 5) (vr 7)) ao)) (dX H (dX H (vr 5) (vr 6)) ao)) (aa (dY (dY (vr 9) (dX H (dX H (vr 5) (vr 7)) ao)) (dX H (dX H (vr 5) (vr 6)) ao)) ah))))
  (aH (v9 H (vr 3) (vr 7) (dL i hr hx (aa (dX H (vr 10) ao) (aa (dX H (vr 10) ao) ah))) rfl)))) cE)))))))))
  (aH (aT (vr 3)))))),λds A R h hl=>?_⟩
 obtain⟨y,st,rfl,h6,hF,hs,q⟩:=h;have hz:(1000:Nat)<=sizeLine:=by decide
 refine⟨rfl,y,rfl,h6,hF,λk qb g1 hB l1=>?_⟩;obtain⟨ts,eb,hD⟩:=hB;have pI:=hD.len;rw[aR] at pI;have e1:[((Sum.inr st:Key),D.tup [.int 1,.int 1])]=aU [(st,1)]:=by
  show _=[((Sum.inr st:Key),fq 1)];unfold fq;rw[yt]
 have f2:(k++[C.dct [((Sum.inr st:Key),D.tup [.int 1,.int 1])]])[k.length]?=some (.dct (aU [(st,1)])):=by rw[e1];exact aG
 have g2:Gr k (k++[C.dct [((Sum.inr st:Key),D.tup [.int 1,.int 1])]]):=Gr.push;refine⟨show 2<=sizeLine by decide,by decide,by decide,?_⟩;generalize Ro:(k++[C.dct [((Sum.inr st:Key),D.tup [.int 1,.int 1])]]:Ar)=A2 at f2 g2;have RO:=bU eb;refine d_ (λrest τ A'=>∃(j:Nat) (F:Tb) (x4 x5 x6 I J L d:Option D),j<=6/\rest=(dP 0 6).drop j/\τ=[some (.tup (y.map enc)),some (.str st),some (.ref qb),some (.ref k.length),x4,x5,x6,I,J,L,d]/\A'[k.length]?=some (.dct (aU F))/\di (y.map aF) st F/\(jm (y.map aF) F\/j+1<=F.length)/\Gr k A') ?_ ?_ ?_ _ _ _ ⟨0,[(st,1)],none,none,none,none,none,none,none,cV _,rfl,rfl,f2,di.start hs,.inr (aI _),g2⟩
 .intro _ _ _ _
  trivial
 .rintro v rest τ A3 ⟨j,F,x4,x5,x6,I,J,L,d,hj,e,rfl,o9,S,hc3,g3⟩ Nx hN
  obtain⟨rfl,rfl,hlt⟩:=Oz e;refine eO (g3.get eb) ?_;refine d_ (λrest τ A'=>∃(dn s:List Tb) (tm:List Nat) (o:Tb) (x5 x6 I J L d:Option D),rest=tm.map D.ref/\dn++s=y.map aF/\cK k tm s/\τ=[some (.tup (y.map enc)),some (.str st),some (.ref qb),some (.ref k.length),some (.int ((j:Nat):Int)),x5,x6,I,J,L,d]/\A'[k.length]?=some (.dct (aU o))/\di (y.map aF) st o/\(∀n∈af F,n∈af o)/\(∀T∈dn,∀n∈af F,n∈af T->∀b∈af T,b∈af o)/\Gr k A') ?_ ?_ ?_ _ _ _ ⟨[],y.map aF,ts,F,x5,x6,I,J,L,d,rfl,rfl,hD,rfl,o9,S,λ_ h=>h,λT hT=>(by cases hT),g3⟩
  .rintro rest τ A' ⟨_,_,_,_,_,_,_,_,_,_,_,_,_,_,_,_,_,_,g⟩
   exact g.get eb
  .rintro v rest τ A4 ⟨dn,s,tm,z,y5,y6,y7,y8,y9,qh,e4,M,kU,rfl,U,V,rO,wY,g4⟩ zv wW
   cases tm with
   |nil=>cases e4
   |cons t tm=>
   cases e4;obtain⟨T,more',rfl,ht,wV⟩:=kU.cons;have hT:T∈y.map aF:=by rw[<-M];simp
   have tok:=(rJ h6 hF).tok T hT;have RL:=bU ht;refine k8 U (j0 z) (by have:=V.len;simp[af];omega) ?_;have c5:(A4++[C.lst ((af z).map D.str)])[A4.length]?=some (.lst ((af z).map D.str)):=aG;have Rv:=g4.len;have g5:Gr A4 (A4++[C.lst ((af z).map D.str)]):=Gr.push;refine eO c5 ?_;refine d_ (λrest τ A'=>∃(N a:List Str) (o:Tb) (x6 I J L d:Option D),rest=a.map D.str/\N++a=af z/\τ=[some (.tup (y.map enc)),some (.str st),some (.ref qb),some (.ref k.length),some (.int ((j:Nat):Int)),some (.ref t),x6,I,J,L,d]/\A'[k.length]?=some (.dct (aU o))/\di (y.map aF) st o/\(∀n∈af z,n∈af o)/\(∀n∈N,n∈af T->∀b∈af T,b∈af o)/\Gr k A'/\A'[A4.length]?=some (.lst ((af z).map D.str))) ?_ ?_ ?_ _ _ _ ⟨[],af z,z,y6,y7,y8,y9,qh,rfl,rfl,rfl,g5.get U,V,λ_ h=>h,λn hn=>(by cases hn),g4.trans g5,c5⟩
   .rintro rest τ A' ⟨_,_,_,_,_,_,_,_,_,_,_,_,_,_,_,_,h⟩
    exact h
   .rintro v rest τ A6 ⟨N,a,F6,z6,z7,z8,z9,FL,e6,p,rfl,rL,xm,W,wZ,g6,hc6⟩ Rj J8
    cases a with
    |nil=>cases e6
    |cons n a=>
    cases e6;have Kl:n∈af z:=by rw[<-p];simp
    have Kv:=g6.get ht;have l6:=bU hc6;refine k8 Kv (j0 T) (by have:=tok.len;simp[af];omega) ?_;have c7:(A6++[C.lst ((af T).map D.str)])[A6.length]?=some (.lst ((af T).map D.str)):=aG;have g7:Gr A6 (A6++[C.lst ((af T).map D.str)]):=Gr.push;refine eO c7 ?_;refine d_ (λrest τ A'=>∃(O c:List Str) (o:Tb) (I J L d:Option D),rest=c.map D.str/\O++c=af T/\τ=[some (.tup (y.map enc)),some (.str st),some (.ref qb),some (.ref k.length),some (.int ((j:Nat):Int)),some (.ref t),some (.str n),I,J,L,d]/\A'[k.length]?=some (.dct (aU o))/\di (y.map aF) st o/\(∀m∈af F6,m∈af o)/\(n∈af T->∀b∈O,b∈af o)/\Gr k A'/\A'[A4.length]?=some (.lst ((af z).map D.str))/\A'[A6.length]?=some (.lst ((af T).map D.str))) ?_ ?_ ?_ _ _ _ ⟨[],af T,F6,z7,z8,z9,FL,rfl,rfl,rfl,g7.get rL,xm,λ_ h=>h,λ_ b hb=>(by cases hb),g6.trans g7,g7.get hc6,c7⟩
    .rintro rest τ A' ⟨_,_,_,_,_,_,_,_,_,_,_,_,_,_,_,_,h⟩
     exact h
    .rintro v rest τ A8 ⟨O,c,F8,w7,w8,w9,kh,e8,r,rfl,B,u,X,w_,g8,Y,rM⟩ GD J9
     cases c with
     |nil=>cases e8
     |cons b c=>
     cases e8;have rK:b∈af T:=by rw[<-r];simp
     have Z:=g8.get ht;have step:∀(I J L d:Option D) (o:Tb) (A':Ar) (bI:bq),bI=[some (.tup (y.map enc)),some (.str st),some (.ref qb),some (.ref k.length),some (.int ((j:Nat):Int)),some (.ref t),some (.str n),I,J,L,d]->A'[k.length]?=some (.dct (aU o))->di (y.map aF) st o->(∀m∈af F8,m∈af o)->(n∈af T->b∈af o)->Gr k A'->A'[A4.length]?=some (.lst ((af z).map D.str))->A'[A6.length]?=some (.lst ((af T).map D.str))->GD bI A':=λI J L d o A' bI xq k1 k2 k3 k4 k5 k6 k7=>
      J9 _ _ ⟨O++[b],c,o,I,J,L,d,rfl,by simpa using r,xq,k1,k2,λm hm=>k3 m (X m hm),λhn b' hb'=>by
       rcases ck.mp hb' with h'|h'
       .exact k3 _ (w_ hn b' h')
       .rw[b_.mp h'];exact k4 hn,k5,k6,k7⟩
     refine jy Z rfl ?_;rw[ay b9,kT];refine cD (λc1=>?_) (λc1=>step _ _ _ _ F8 _ _ rfl B u (λ_ h=>h) (λhn=>absurd hn c1) g8 Y rM);refine jy B rfl ?_;rw[aA rfl,kT];refine cN (λc2=>?_) (λc2=>step _ _ _ _ F8 _ _ rfl B u (λ_ h=>h) (λ_=>c2) g8 Y rM);have o_:n∈af F8:=X n (W n Kl);obtain⟨x,xo⟩:=pC o_;have ex:au F8 n=x:=ud u.nd xo;obtain⟨xp,xa,xb⟩:=u.pos xo;obtain⟨bp,ba,bb⟩:=jG hF hT rK;obtain⟨np,na,nb⟩:=jG hF hT c1;have x1:=cT xp;have x2:=cP x;have b1:=cT bp;have b2:=cP (au T b);have n1:=cT np;have n2:=cP (au T n);refine fH B rfl (by rw[gH o_,ex]) ?_;have l8:=u.len;have m1:(rf x).1*(rf (au T b)).1<=474373168346071296*81:=dc xa ba (eK b1) (by decide);have m2:(rf x).1*(rf (au T b)).1*(rf (au T n)).2<=474373168346071296*81*324:=dc m1 nb (eK n2) (by decide);have k1:0<(rf x).1*(rf (au T b)).1*(rf (au T n)).2:=cJ (cJ x1 b1) n2;have k2:0<(rf x).2*(rf (au T b)).2*(rf (au T n)).1:=cJ (cJ x2 b2) n1;refine⟨rfl,fH Z rfl (gH rK) ⟨.inr ⟨by omega,by omega⟩,fH Z rfl (gH c1) ⟨.inr ⟨by omega,by omega⟩,fH Z rfl (gH rK) ⟨.inr ⟨by omega,by omega⟩,fH Z rfl (gH c1) ⟨.inr ⟨by omega,by omega⟩,show 2<=sizeLine by decide,?_⟩⟩⟩⟩⟩;refine⟨rfl,_,⟨(rf x).1*(rf (au T b)).1*(rf (au T n)).2,(rf x).2*(rf (au T b)).2*(rf (au T n)).1,rfl,k1,k2,E7 (by omega),rfl⟩,λA9 g9=>?_⟩;have B_:=g9.get B;refine yh B_ rfl (by unfold aU;rw[aR];omega) ?_;have ek:cG (aU F8) (Sum.inr b) (D.tup [.int (rd ((rf x).1*(rf (au T b)).1*(rf (au T n)).2) ((rf x).2*(rf (au T b)).2*(rf (au T n)).1)).1,.int (rd ((rf x).1*(rf (au T b)).1*(rf (au T n)).2) ((rf x).2*(rf (au T b)).2*(rf (au T n)).1)).2])=aU (F8++[(b,x*(au T b/au T n))]):=by
      rw[wJ k2,FA xp bp np,<-Cz,N_ c2]
     rw[ek];refine step _ _ _ _ (F8++[(b,x*(au T b/au T n))]) _ _ rfl (fu (bU B_)) (u.add hF hT xo c1 rK c2) (λm hm=>by unfold af at*;rw[cX];exact mC _ hm) (λ_=>by unfold af;rw[cX];exact gP _ (by simp)) ((g8.trans g9).set (aI _)) ?_ ?_
     .have:=bU U
      rw[fm (by omega)];exact g9.get Y
     .have:=bU rL
      rw[fm (by omega)];exact g9.get rM
    .rintro τ A8 ⟨O,c,F8,w7,w8,w9,kh,e8,r,rfl,B,u,X,w_,g8,Y,rM⟩
     cases c with
     |cons _ _=>cases e8
     |nil=>
      have r:O=af T:=by simpa using r
      subst r;exact J8 _ _ ⟨N++[n],a,F8,_,_,_,_,_,rfl,by simpa using p,rfl,B,u,λm hm=>X m (W m hm),λn' hn' E b hb=>by
       rcases ck.mp hn' with h'|h'
       .exact X _ (wZ n' h' E b hb)
       .rw[b_.mp h'] at E
        exact w_ E b hb,g8,Y⟩
   .rintro τ A6 ⟨N,a,F6,z6,z7,z8,z9,FL,e6,p,rfl,rL,xm,W,wZ,g6,hc6⟩
    cases a with
    |cons _ _=>cases e6
    |nil=>
     have p:N=af z:=by simpa using p
     subst p;exact wW _ _ ⟨dn++[T],more',tm,F6,_,_,_,_,_,_,rfl,by simpa using M,wV,rfl,rL,xm,λm hm=>W m (rO m hm),λT' jw n hn E b hb=>by
      rcases ck.mp jw with h'|h'
      .exact W _ (wY T' h' n hn E b hb)
      .rw[b_.mp h'] at E hb
       exact wZ n (rO n hn) E b hb,g6⟩
  .rintro τ A4 ⟨dn,s,tm,z,y5,y6,y7,y8,y9,qh,e4,M,kU,rfl,U,V,rO,wY,g4⟩
   cases tm with
   |cons _ _=>cases e4
   |nil=>
    cases s with
    |cons _ _=>exact kU.elim
    |nil=>
     have M:dn=y.map aF:=by simpa using M
     subst M;exact hN _ _ ⟨j+1,z,_,_,_,_,_,_,_,by omega,rfl,rfl,U,V,QO S V hc3 rO wY,g4⟩
 .rintro τ A3 ⟨j,F,x4,x5,x6,I,J,L,d,hj,e,rfl,o9,S,hc3,g3⟩
  have Rp:j=6:=by
   have l:(dP 0 6).length=6:=by simp[dP]
   have:=bV List.length e;rw[mw,l] at this;simp at this;omega
  have l5:=S.len;refine q _ _ F (g1.trans g3) o9 g1.len S ?_;rcases hc3 with h|h
  .exact h
  .omega
theorem JC(T:TopD K mg "_law_ratio" Es sR)(a:aD P w K mg base 1 "_law_least" lG (aB mg 2 oz)):aD P w K mg base 2 "_law_ratio" sR (aB mg 2 zW):=by
 refine bW T OX λf m g b nd=>⟨_,(aH (aT (dL a f g (aa (dY (dX b (vr 0) ao) (dX b (vr 1) ao)) (aa (dY (dX b (vr 0) ao) (dX b (vr 1) ao)) ah))))),λds A R h hl=>?_⟩;obtain⟨x,y,rfl,c,d,i,n,o,j,q⟩:=h;have a1:=cT c;have a2:=cP x;have k:=cT d;have e:=cP y;have p:(rf x).1*(rf y).2<=474373168346071296*324:=dc i j (eK e) (by decide);have k2:0<(rf x).2*(rf y).1:=cJ a2 k;refine⟨.inr ⟨by omega,by omega⟩,.inr ⟨by omega,by omega⟩,rfl,_,⟨(rf x).1*(rf y).2,(rf x).2*(rf y).1,rfl,cJ a1 e,k2,E7 (by omega),rfl⟩,λr l=>?_⟩;rw[wJ k2,<-rj c d];exact q _ l
end My
namespace DP
open L2 MA
def n_(Ts:List Tb)(F:Tb):Prop:=∀T∈Ts,∀a∈af T,∀b∈af T,a∈af F->b∈af F->au F a*au T b=au F b*au T a
theorem Bw{α:Type}{p q:α->Bool}:∀{l:List α},(∀x∈l,p x=q x)->l.find? p=l.find? q
 |[],_=>rfl
 |x::l,h=>by
  rw[jL,jL,h x (cR ..),Bw λy a=>h y (cj _ a)]
theorem di.val{b:List Tb}(f:∀T∈b,f6 T){w:Str->Rat}(g:Cs b w){s:Str}{F:Tb}(h:di b s F){a:Str}(i:a∈af F):au F a*w s=w a:=by
 obtain⟨x,d⟩:=pC i;obtain⟨l,c,e⟩:=h.snd _ d;rw[ud h.nd d];show x*w s=w a;rw[show x=eN b l from e];exact G_ f g c
theorem JT{c:List Tb}(e:∀T∈c,f6 T){w:Str->Rat}(d:Cs c w){s:Str}{F:Tb}(h:di c s F):n_ c F:=λT f a g b i j k=>by
 have l:=h.val e d j;have m:=h.val e d k;have n:=d.eq T f a g b i;have p:=lz (d.pos s);grind
theorem Ho{c:List Tb}(h:∀T∈c,∃s F,s∈af T/\di c s F/\jm c F/\n_ c F):∃w,Cs c w:=by
 have hc:∀T:Tb,∃F:Tb,T∈c->∃s,s∈af T/\di c s F/\jm c F/\n_ c F:=λT=>by
  by_cases g:T∈c
  .obtain⟨s,F,k⟩:=h T g
   exact⟨F,λ_=>⟨s,k⟩⟩
  .exact⟨[],λz=>absurd z g⟩
 obtain⟨f,l⟩:=Classical.axiomOfChoice hc;refine⟨λn=>match c.find? (λT=>decide (n∈af (f T))) with|some T=>au (f T) n|none=>1,λn=>?_,λT g a j b m=>?_⟩
 .cases e:c.find? (λT=>decide (n∈af (f T))) with
  |none=>exact(by decide:(0:Rat)<1)
  |some T=>
   have h1:=nR e;have h1:n∈af (f T):=fE h1;obtain⟨s,_,i,_⟩:=l T (iO e);obtain⟨x,q⟩:=pC h1;show 0<au (f T) n;rw[ud i.nd q];exact(i.pos q).1
 .have same:c.find? (λT=>decide (b∈af (f T)))=c.find? (λT=>decide (a∈af (f T))):=Bw λo p=>by
   obtain⟨s,_,i,d,_⟩:=l o p;have:b∈af (f o)↔a∈af (f o):=⟨λz=>d b z a ⟨T,g,m,j⟩,λz=>d a z b ⟨T,g,j,m⟩⟩;simp[this]
  show(match c.find? (λT=>decide (a∈af (f T))) with|some T=>au (f T) a|none=>1)*_=(match c.find? (λT=>decide (b∈af (f T))) with|some T=>au (f T) b|none=>1)*_;rw[same];cases e:c.find? (λT=>decide (a∈af (f T))) with
  |none=>
   obtain⟨s,r,i,d,_⟩:=l T g;have:=qv.mp e T g;exact absurd (cW (d s i.stk a ⟨T,g,r,j⟩)) this
  |some T0=>
   have h1:=nR e;have h1:a∈af (f T0):=fE h1;obtain⟨s,_,i,d,t⟩:=l T0 (iO e);exact t T g a j b m h1 (d a h1 b ⟨T,g,j,m⟩)
theorem vM{α:Type}{k:Option Nat}{fr:bq}{tt:ef}{te:aM}{d:Ar->Prop}{R:List D->Ar->Prop}(g:α->D)(p:α->Bool)(f:α->D):∀(xs:List α) (ys:List D) (A:Ar),(∀a,Gr A a->d a)->(∀x∈xs,∀a,Gr A a->∃e,lM k (g x)=some e/\(∀Q:Bool->Ar->Prop,(∀b,Gr a b->Q (p x) b)->tt (e.map some++fr) a Q)/\(p x=true->∀b,Gr a b->∀Q:DK,(∀i,Gr b i->Q (f x) i)->te (e.map some++fr) b Q))->ys.length+xs.length<=sizeLine->(∀a,Gr A a->R (ys++(xs.filter p).map f) a)->iX d k fr tt te R (xs.map g) ys A
 |[],ys,A,hc,_,_,h=>⟨hc A Gr.refl,by simpa using h A Gr.refl⟩
 |x::xs,ys,A,hc,j,hl,h=>by
  obtain⟨e,o,q,r⟩:=j x (cR ..) A Gr.refl;refine⟨hc A Gr.refl,?_⟩;rw[o];simp at hl;refine q _ λb c=>?_;cases l:p x with
  |true=>
   rw[List.filter_cons_of_pos l] at h;exact r l b c _ λi m=>⟨by omega,vM g p f xs (ys++[f x]) i (λa z=>hc a ((c.trans m).trans z)) (λy n a z=>j y (cj _ n) a ((c.trans m).trans z)) (by simp;omega) λa z=>by simpa using h a ((c.trans m).trans z)⟩
  |false=>
   rw[List.filter_cons_of_neg (by simp[l])] at h;exact vM g p f xs ys b (λa z=>hc a (c.trans z)) (λy n a z=>j y (cj _ n) a (c.trans z)) (by omega) λa z=>h a (c.trans z)
theorem BG{x:Rat}:Dk 1 (fq x):=Ir vZ vZ
theorem Fo:∀xs:List Rat,bX (xs.map fq)=xs.map λx=>toQ (fq x)
 |[]=>rfl
 |x::xs=>by simp[bX,Fo xs]
theorem Hi{x:Rat}{xs:List Rat}:(bX ((x::xs).map fq)).countP (λz=>PyData.eqv z (toQ (fq x)))=(x::xs).length↔∀y∈x::xs,y=x:=by
 rw[Fo,List.countP_map,List.countP_eq_length];constructor
 .intro h y a
  have:=h y a;rw[Function.comp_apply,wo] at this;exact fE this
 .intro h y a
  rw[Function.comp_apply,wo];exact cW (h y a)
def zy:Ct:=λds A R _=>∃ms:List M,ds=[.tup (ms.map enc)]/\ms.length<=6/\(∀m∈ms,Fw m)/\∀b A',(b=true↔∃w,Cs (ms.map aF) w)->Gr A A'->R (.bl b) A'
end DP
namespace My
open L2 DP MA
theorem IX(T:TopD K mg "_law_agree" Ed sI)(G:mg "list"=none)(Z:mg "len"=none)(l:aD P w K mg base 10 "_law_books" lD (aB mg 1 ow))(m:aD P w K mg base 11 "_law_heavy" sN (aB mg 2 zJ))(o:aD P w K mg base 2 "_law_ratio" sR (aB mg 2 zW)):aD P w K mg base 12 "_law_agree" sI (aB mg 1 zy):=by
 refine bW T OM λhr hR hx U nd=>⟨_,(aE (dS 1 nd (dL l hr hx (aa (vr 0) ah)))
  (aE (eB dO rfl (d9 (vr 1)) (dG 2 nd) (aE (dS 3 nd (dL m hr hx (aa (vr 0) (aa (dX U (gW (kJ rfl) kO G jk (aa (vr 2) ah)) ao) ah))))
  (aH (eB dO rfl (d9 (vr 1)) (dG 4 nd) (aE (Iz none (own:=["_law_name"]) (frees:=["_law_found","_law_book"]) (ix:=[3,4]) (i:=5) nd rfl (by first|exact Or.inl rfl|exact Or.inr rfl) rfl (d9 (gW (kJ rfl) kO G jk (aa (vr 4) ah))) (λc=>(pG 0 (show(["_law_name","_law_found","_law_book"]:List Str).Nodup by decide+kernel))) (λc=>(yM U (vr 0) (vr 1))) (λc=>(dL o hr pR (aa (dX U (vr 1) (vr 0)) (aa (dX U (vr 2) (vr 0)) ah)))))
  (aH (cz (PW.pt (we (j_ U (vr 5) (bK ah)) (wg (j_ U (gX iz PySem.F.slot_list_count PySem.F.type_list_count (L7 U) HK (vr 5) (aa (dX U (vr 5) ao) ah)) (dW eY eu Z fk (aa (vr 5) ah)))))) (aH (aT fO)) cE)))))))
  (aH (aT fO)))),λds A R h hl=>?_⟩
 obtain⟨E,rfl,h6,V,q⟩:=h;have hz:(1000:Nat)<=sizeLine:=by decide
 have ok:=rJ h6 V;refine⟨rfl,E,rfl,h6,V,λA1 qb g1 hB l1=>?_⟩;obtain⟨ts,eb,hD⟩:=hB;refine eO eb ?_;refine d_ (λrest τ A'=>∃(dn u:List Tb) (W:List Nat) (x2 x3 x4 L:Option D),rest=W.map D.ref/\dn++u=E.map aF/\cK A1 W u/\τ=[some (.tup (E.map enc)),some (.ref qb),x2,x3,x4,L]/\(∀T∈dn,∃s F,s∈af T/\di (E.map aF) s F/\jm (E.map aF) F/\n_ (E.map aF) F)/\Gr A1 A') ?_ ?_ ?_ _ _ _ ⟨[],E.map aF,ts,none,none,none,none,rfl,rfl,hD,rfl,λ_ h=>(by cases h),Gr.refl⟩
 .rintro rest τ A' ⟨_,_,_,_,_,_,_,_,_,_,_,_,g⟩
  exact g.get eb
 .rintro v rest τ A2 ⟨dn,u,W,x2,x3,x4,L,e,H,wU,rfl,hdn,g2⟩ Nx hN
  cases W with
  |nil=>cases e
  |cons t W=>
  cases e;obtain⟨T0,more',rfl,ht,J4⟩:=wU.cons;have rH:T0∈E.map aF:=by rw[<-H];simp
  have tok:=ok.tok T0 rH;have lT:(af T0).length<=32:=by have:=tok.len;simp[af];omega
  obtain⟨s0,r0,es⟩:∃s0 r0,af T0=s0::r0:=by
   cases ek:af T0 with
   |nil=>exact absurd (List.map_eq_nil_iff.mp ek) tok.ne
   |cons s0 r0=>exact⟨s0,r0,rfl⟩
  have hs0:s0∈af T0:=by rw[es];simp
  refine k8 (g2.get ht) (j0 T0) (by omega) ?_;refine fB aG (v:=.str s0) (by rw[es];exact iG (j:=0) rfl) ?_;refine⟨rfl,E,s0,rfl,h6,V,ok.sub T0 rH s0 hs0,λA3 q3 F g3 o9 l3 hv hcl=>?_⟩;have JN:Gr A2 A3:=Gr.push.trans g3;have J:=g2.trans JN;have lF:=hv.len;refine eO (J.get eb) ?_;refine d_ (λrest τ A'=>∃(I f:List Tb) (B:List Nat) (x4 L:Option D),rest=B.map D.ref/\I++f=E.map aF/\cK A1 B f/\τ=[some (.tup (E.map enc)),some (.ref qb),some (.ref t),some (.ref q3),x4,L]/\n_ I F/\Gr A3 A') ?_ ?_ ?_ _ _ _ ⟨[],E.map aF,ts,x4,L,rfl,rfl,hD,rfl,λ_ h=>(by cases h),Gr.refl⟩
  .rintro rest τ A' ⟨_,_,_,_,_,_,_,_,_,_,g⟩
   exact g.get (J.get eb)
  .rintro v rest τ X ⟨I,f,B,y4,y5,e4,p,kU,rfl,hG,g4⟩ zv wW
   cases B with
   |nil=>cases e4
   |cons t' B=>
   cases e4;obtain⟨T,M,rfl,ht',wV⟩:=kU.cons;have hT:T∈E.map aF:=by rw[<-p];simp
   have tok':=ok.tok T hT;have Ry:(af T).length<=32:=by have:=tok'.len;simp[af];omega
   have Cj:=(J.trans g4).get ht';have B9:=g4.get o9;refine k8 Cj (j0 T) (by omega) ?_;have c5:(X++[C.lst ((af T).map D.str)])[X.length]?=some (.lst ((af T).map D.str)):=aG;have wM:Gr X (X++[C.lst ((af T).map D.str)]):=Gr.push;refine eO c5 ?_;refine vM D.str (λn=>decide (n∈af F)) (λn=>fq (au F n/au T n)) (af T) [] _ (λA' g=>g.get c5) (λn hn A6 g6=>?_) (by simp;omega) (λA6 g6=>?_)
   .refine⟨[.str n],rfl,λQ hQ=>?_,λhp A7 g7 Q hQ=>?_⟩
    .refine jy ((wM.trans g6).get B9) rfl ?_
     rw[ay b9,kT];exact hQ _ Gr.refl
    .have Cd:n∈af F:=fE hp
     obtain⟨x,hx⟩:=pC Cd;obtain⟨k1,k2,k3⟩:=hv.pos hx;obtain⟨k4,k5,k6⟩:=jG V hT hn;have ex:au F n=x:=ud hv.nd hx;have N:=(wM.trans g6).trans g7;refine fH (N.get B9) rfl (gH Cd) (fH (N.get Cj) rfl (gH hn) ⟨rfl,_,_,rfl,by rw[ex];exact k1,k4,by rw[ex];exact k2,by rw[ex];exact k3,k5,k6,λA8 g8=>hQ _ g8⟩)
   rw[gx];obtain⟨Y,hvs⟩:∃Y,Y=(af T).filter (λn=>decide (n∈af F)):=⟨_,rfl⟩;have O:∀n,n∈Y↔n∈af T/\n∈af F:=λn=>by rw[hvs,mem_filter,nQ]
   have emap:((af T).filter (λn=>decide (n∈af F))).map (λn=>fq (au F n/au T n))=(Y.map λn=>au F n/au T n).map fq:=by rw[hvs,cY];rfl
   rw[emap];obtain⟨xs,r⟩:∃xs,xs=Y.map λn=>au F n/au T n:=⟨_,rfl⟩;rw[<-r];have h7:=aG (A:=A6) (c:=C.lst (xs.map fq));obtain⟨s1,s2,s3⟩:=rq (k:=1) (xs:=xs.map fq) λd hd=>by
    obtain⟨x,_,rfl⟩:=br.mp hd;exact BG
   have N:Gr X (A6++[C.lst (xs.map fq)]):=(wM.trans g6).trans Gr.push;have next:∀(L:Option D) (A':Ar) (bI:bq),(∀a∈Y,∀b∈Y,au F a/au T a=au F b/au T b)->bI=[some (.tup (E.map enc)),some (.ref qb),some (.ref t),some (.ref q3),some (.ref t'),L]->Gr X A'->zv bI A':=λL A' bI hall xq g=>wW _ _ ⟨I++[T],M,B,_,L,rfl,by simpa using p,wV,xq,λT' jw=>by
    rcases ck.mp jw with h'|h'
    .exact hG T' h'
    .rw[b_.mp h']
     intro a ha b hb fa fb;have e1:=hall a ((O a).mpr ⟨ha,fa⟩) b ((O b).mpr ⟨hb,fb⟩);have p1:=lz (jG V hT ha).1;have p2:=lz (jG V hT hb).1;grind,g4.trans g⟩
   refine⟨cV _,C1 h7 s1 s2 ?_⟩;have h8:=(Gr.push (T:=[C.lst []])).get h7;have S:Gr X (A6++[C.lst (xs.map fq)]++[C.lst []]):=N.trans Gr.push;generalize (A6++[C.lst (xs.map fq)]++[C.lst []]:Ar)=A8 at h8 S ⊢;cases Y with
   |nil=>
    have:xs=[]:=by rw[r];rfl
    subst this;exact next _ _ _ (λa ha=>(by cases ha)) rfl S
   |cons v0 vr=>
   have r:xs=(au F v0/au T v0)::vr.map λn=>au F n/au T n:=r;refine cN (λc=>?_) (λc=>absurd c (by rw[r];simp));refine⟨gZ h8,fB h8 (v:=fq (au F v0/au T v0)) (by rw[r];exact iG (j:=0) rfl) ?_⟩;refine Hh h8 s1 rfl s2 BG.2.1 (by omega) ?_;refine gI h8 ?_;rw[aR];have key:=Hi (x:=au F v0/au T v0) (xs:=vr.map λn=>au F n/au T n);rw[<-r] at key;refine cN (λc=>?_) (λc=>?_)
   .have nk:¬∀y∈xs,y=au F v0/au T v0:=λz=>c (by exact_mod_cast key.mpr z)
    refine q false _ ⟨λz=>(by cases z),λ⟨w0,hw0⟩=>absurd (λy hy=>?_) nk⟩ ((g1.trans J).trans (g4.trans S));rw[r] at hy;obtain⟨a,ha,rfl⟩:∃a,a∈v0::vr/\au F a/au T a=y:=by
     rcases cu.mp hy with rfl|hy
     .exact⟨v0,cR ..,rfl⟩
     .obtain⟨a,ha,e⟩:=br.mp hy
      exact⟨a,cj _ ha,e⟩
    have m1:=(O a).mp ha;have m2:=(O v0).mp (cR ..);have e1:=JT ok.tok hw0 hv T hT a m1.1 v0 m2.1 m1.2 m2.2;have p1:=lz (jG V hT m1.1).1;have p2:=lz (jG V hT m2.1).1;grind
   .have ak:=key.mp (by exact_mod_cast c)
    have z_:∀a∈v0::vr,au F a/au T a=au F v0/au T v0:=λa ha=>ak _ (by
     rw[r];rcases cu.mp ha with rfl|ha
     .exact cR ..
     .exact cj _ (br.mpr ⟨a,ha,rfl⟩))
    exact next _ _ _ (λa ha b hb=>(z_ a ha).trans (z_ b hb).symm) rfl S
  .rintro τ X ⟨I,f,B,y4,y5,e4,p,kU,rfl,hG,g4⟩
   cases B with
   |cons _ _=>cases e4
   |nil=>
    cases f with
    |cons _ _=>exact kU.elim
    |nil=>
     have p:I=E.map aF:=by simpa using p
     subst p;exact hN _ _ ⟨dn++[T0],more',W,_,_,_,_,rfl,by simpa using H,J4,rfl,λT' jw=>by
      rcases ck.mp jw with h'|h'
      .exact hdn T' h'
      .rw[b_.mp h']
       exact⟨s0,F,hs0,hv,hcl,hG⟩,J.trans g4⟩
 .rintro τ A2 ⟨dn,u,W,x2,x3,x4,L,e,H,wU,rfl,hdn,g2⟩
  cases W with
  |cons _ _=>cases e
  |nil=>
   cases u with
   |cons _ _=>exact wU.elim
   |nil=>
    have H:dn=E.map aF:=by simpa using H
    subst H;exact q true _ ⟨λ_=>Ho hdn,λ_=>rfl⟩ (g1.trans g2)
end My
namespace DP
open L2 MA
def xx(x:D)(a b:Int):Bool:=match x with
 |.int i=>decide (a<=i)&&decide (i<=b)
 |_=>false
def zT:Ct:=λds A R _=>∃x a b,ds=[x,.int a,.int b]/\((∃i,x=.int i)\/∃i,x=.bl i)/\∀A',Gr A A'->R (.bl (xx x a b)) A'
def gc(Ts:List Tb)(i:Nat)(n:Str):Bool:=match Ts[i]? with
 |some T=>decide (n∈af T)
 |none=>false
def dR(Ts:List Tb)(s:aN):Bool:=gc Ts s.1 s.2.1&&gc Ts s.1 s.2.2
theorem ug{a:List Tb}{s:aN}:dR a s=true↔cS a s:=by
 unfold dR gc cS;cases e:a[s.1]? with
 |none=>simp
 |some T=>simp
inductive fM(A:Ar):D->Prop
 |ai:fM A .ai
 |two (i:Int) (a:Str):fM A (.tup [.int i,.str a])
 |tr (a b:Str):fM A (.tup [.bl true,.str a,.str b])
 |nn:fM A (.tup [.int 0,.ai,.ai])
 |ls {q:Nat} {xs:List D}:A[q]?=some (.lst xs)->fM A (.ref q)
 |l1 {q:Nat} {xs:List D} (b:Str):A[q]?=some (.lst xs)->fM A (.tup [.int 0,.ref q,.str b])
 |l2 {q:Nat} {xs:List D} (b:Str):A[q]?=some (.lst xs)->fM A (.tup [.int 0,.str b,.ref q])
theorem fM.gr{A B:Ar}{x:D}(h:fM A x)(g:Gr A B):fM B x:=by
 cases h with
 |ai=>exact .ai
 |two i a=>exact .two i a
 |tr a b=>exact .tr a b
 |nn=>exact .nn
 |ls h=>exact .ls (g.get h)
 |l1 b h=>exact .l1 b (g.get h)
 |l2 b h=>exact .l2 b (g.get h)
def zN:Ct:=λds A R _=>∃r Ts x,ds=[.ref r,x]/\gQ A r Ts/\Ts≠[]/\((∃s:aN,x=av s/\∀A',Gr A A'->R (.bl (dR Ts s)) A')\/(fM A x/\∀A',Gr A A'->R (.bl false) A'))
theorem qd{A:Ar}{q:Nat}{xs:List D}(h:A[q]?=some (.lst xs)):kg A (.ref q)=some "list":=by
 unfold kg;simp only[h]
theorem Cn{A:Ar}{t:Nat}{T:Tb}{n:Str}{R:DK}(h:TabAt A t T)(k:R (.bl (decide (n∈af T))) A):pq false (.str n) t A R:=by
 have e:(bf (aU T) (Sum.inr n)).isSome=decide (n∈af T):=by
  rw[rF,isSome_map];exact find_some
 exact Cm h rfl (by rw[<-e] at k;exact k)
def jR(ss:List aN):Bool:=decide (ss.map (λs=>s.2.2)=(ss.drop 1++ss.take 1).map (λs=>s.2.1))
def jg(n i:Nat):Nat:=if i=0 then n - 1 else i - 1
def iZ(ss:List aN)(i:Nat):Bool:=decide ((ss[jg ss.length i]?).map (λs=>s.2.2)=(ss[i]?).map (λs=>s.2.1))
theorem yv{α:Type}{l:List α}{j:Nat}(h:j<l.length):(l.drop 1++l.take 1)[j]?=l[if j+1<l.length then j+1 else 0]? :=by
 by_cases c:j+1<l.length
 .rw[aA c,gz (by simp;omega),List.getElem?_drop,Nat.add_comm]
 .rw[ay c,mh (by simp;omega),mw,show j - (l.length - 1)=0 by omega,List.getElem?_take_of_lt (by decide)]
theorem D6{α:Type}{l:List α}:(l.drop 1++l.take 1).length=l.length:=by
 simp;omega
theorem Hf(ss:List aN):(range ss.length).all (iZ ss)=jR ss:=by
 rw[mz,lZ];unfold jR iZ jg;rw[nQ];constructor
 .intro h
  refine ext_getElem? λj=>?_;rw[bH,bH];by_cases a:j<ss.length
  .rw[yv a]
   by_cases c:j+1<ss.length
   .have:=fE (h (j+1) (mem_range.mpr c))
    rw[ay (by omega)] at this;rw[aA c];simpa using this
   .have:=fE (h 0 (mem_range.mpr (by omega)))
    rw[aA rfl,show ss.length - 1=j by omega] at this;rw[ay c];exact this
  .rw[mj (by omega),mj (by rw[D6];omega)]
   rfl
 .intro h i hi
  have hi:=mem_range.mp hi;refine cW ?_;by_cases c:i=0
  .rw[aA c]
   have:=bV (λl=>l[ss.length - 1]?) h;simp only[bH] at this;rw[yv (by omega),ay (by omega)] at this;rw[c];exact this
  .rw[ay c]
   have:=bV (λl=>l[i - 1]?) h;simp only[bH] at this;rw[yv (by omega),aA (by omega),show i - 1+1=i by omega] at this;exact this
theorem GN{α:Type}{xs:List α}{i:Nat}{v:α}(hi:i<xs.length)(h:xs[jg xs.length i]?=some v):cM xs ((i:Int) - 1)=some v:=by
 unfold jg at h;by_cases c:i=0
 .rw[aA c] at h
  unfold cM jc;rw[ay (by omega),aA (by omega),Option.bind_some,show((i:Int) - 1+(xs.length:Nat)).toNat=xs.length - 1 by omega];exact h
 .rw[ay c] at h
  rw[show(i:Int) - 1=((i - 1:Nat):Int) by omega];exact iG h
def zK:Ct:=λds A R _=>∃r ss,ds=[.ref r]/\A[r]?=some (.lst (ss.map av))/\ss.length<=100/\∀A',Gr A A'->R (.bl (jR ss)) A'
end DP
namespace My
open L2 DP MA
theorem Jw(T:TopD K mg "is_number" yw lH)(d:mg "isinstance"=none)(f:mg "bool"=none)(g:mg "int"=none):aD P w K mg base 1 "is_number" lH (aB mg 3 zT):=by
 refine bW T E2 λj k l m nd=>⟨_,(aE (cz (PW.pt (fy (eE (gD xB d f boot_bool (vr 0))) (f_ (e_ (eE (gD Cv d g boot_int (vr 0))))))) (aH (aT fO)) cE)
  (aH (aT (wh (vr 1) (vr 0) (vr 2))))),λds A R h hl=>?_⟩
 obtain⟨x,a,b,rfl,⟨i,rfl⟩|⟨i,rfl⟩,q⟩:=h
 .have q:∀A',Gr A A'->R (.bl (decide (a<=i)&&decide (i<=b))) A':=q
  refine cD (λc=>?_) (λc=>?_)
  .have e:(decide (a<=i)&&decide (i<=b))=decide (i<=b):=by simp[c]
   rw[e] at q;exact q _ Gr.refl
  .have e:(decide (a<=i)&&decide (i<=b))=false:=by simp[c]
   rw[e] at q;exact q _ Gr.refl
 .exact q _ Gr.refl
theorem Jq(T:TopD K mg "is_step" EK tK)(d:mg "isinstance"=none)(l:mg "tuple"=none)(m:mg "len"=none)(n:mg "str"=none)(f:aD P w K mg base 1 "is_number" lH (aB mg 3 zT)):aD P w K mg base 2 "is_step" tK (aB mg 2 zN):=by
 refine bW T Pb λG M H k nd=>⟨_,(aE (cz (PW.pt (fy (e_ (eE (gD kit_tuple d l boot_tuple (vr 1)))) (f_ (j_ k (dW eY eu m fk (aa (vr 1) ah)) ao)))) (aH (aT fO)) cE)
  (aE (cz (e_ (eE (dL f G H (aa (dX k (vr 1) ao) (aa ao (aa (mQ (dW eY eu m fk (aa (vr 0) ah)) ao) ah)))))) (aH (aT fO)) cE)
  (aE (cz (PW.pt (fy (e_ (eE (gD rX d n boot_str (dX k (vr 1) ao)))) (f_ (e_ (eE (gD rX d n boot_str (dX k (vr 1) ao))))))) (aH (aT fO)) cE)
  (aH (aT (mL (Bq k (dX k (vr 1) ao) (dX k (vr 0) (dX k (vr 1) ao))) (oW (Bq k (dX k (vr 1) ao) (dX k (vr 0) (dX k (vr 1) ao)))))))))),λds A R h hl=>?_⟩
 obtain⟨r,o,x,rfl,⟨ts,j,s⟩,y,h⟩:=h;have lt:=s.len;have hz:(1000:Nat)<=sizeLine:=by decide
 rcases h with⟨⟨i,a,b⟩,rfl,q⟩|⟨I,q⟩
 .have q:∀A',Gr A A'->R (.bl (dR o (i,a,b))) A':=q
  refine gI j ⟨rfl,_,_,_,rfl,.inl ⟨_,rfl⟩,λp g=>?_⟩;have J:(ts.map D.ref).length=o.length:=by rw[aR,lt]
  have L:xx (.int ((i:Nat):Int)) 0 ((((ts.map D.ref).length:Nat):Int) - 1)=decide (i<o.length):=by
   show(decide ((0:Int)<=(i:Nat))&&decide (((i:Nat):Int)<=(((ts.map D.ref).length:Nat):Int) - 1))=_;rw[J];by_cases c:i<o.length
   .rw[cW c,cW (show(0:Int)<=(i:Nat) by omega),cW (show((i:Nat):Int)<=((o.length:Nat):Int) - 1 by omega)]
    rfl
   .rw[eL c,eL (show ¬((i:Nat):Int)<=((o.length:Nat):Int) - 1 by omega)]
    simp
  rw[L];by_cases c:i<o.length
  .rw[cW c]
   obtain⟨t,F⟩:∃t,ts[i]?=some t:=⟨ts[i]'(by omega),bO (by omega)⟩;obtain⟨B,C,u⟩:=s.get F;have v:cM (ts.map D.ref) ((i:Nat):Int)=some (.ref t):=iG (by rw[bH,F];rfl);have es:dR o (i,a,b)=(decide (a∈af B)&&decide (b∈af B)):=by
    unfold dR gc;simp only[C]
   have q:=q p g;rw[es] at q;refine fB (g.get j) v (Cn (u.gr g) ?_);by_cases ca:a∈af B
   .rw[cW ca] at q ⊢
    exact fB (g.get j) v (Cn (u.gr g) q)
   .rw[eL ca] at q ⊢
    exact q
  .rw[eL c]
   have es:dR o (i,a,b)=false:=by
    unfold dR gc;simp only[mj (show o.length<=i by omega)];rfl
   have q:=q p g;rw[es] at q;exact q
 .have E:xx (.int 0) 0 ((((ts.map D.ref).length:Nat):Int) - 1)=true:=by
   have:o.length≠0:=λz=>y (List.length_eq_zero_iff.mp z);show(decide ((0:Int)<=0)&&decide ((0:Int)<=(((ts.map D.ref).length:Nat):Int) - 1))=true;rw[cW (show(0:Int)<=0 by decide),cW (show(0:Int)<=(((ts.map D.ref).length:Nat):Int) - 1 by rw[aR];omega)];rfl
  cases I with
  |ai=>exact q _ Gr.refl
  |two i a=>exact q _ Gr.refl
  |tr a b=>exact gI j ⟨rfl,_,_,_,rfl,.inr ⟨_,rfl⟩,λp g=>q _ g⟩
  |nn=>
   refine gI j ⟨rfl,_,_,_,rfl,.inl ⟨_,rfl⟩,λp g=>?_⟩;rw[E];exact q _ g
  |ls h=>
   have e:=qd h;conv=>whnf
   rw[e];exact q _ Gr.refl
  |l1 b h=>
   refine gI j ⟨rfl,_,_,_,rfl,.inl ⟨_,rfl⟩,λp g=>?_⟩;rw[E];have e:=qd (g.get h);conv=>whnf
   rw[e];exact q _ g
  |l2 b h=>
   refine gI j ⟨rfl,_,_,_,rfl,.inl ⟨_,rfl⟩,λp g=>?_⟩;rw[E];have e:=qd (g.get h);conv=>whnf
   rw[e];exact q _ g
theorem Jj(T:TopD K mg "is_closed" EF s_)(b:mg "all"=none)(a:mg "range"=none)(g:mg "len"=none):aD P w K mg base 1 "is_closed" s_ (aB mg 1 zK):=by
 refine bW T O7 λu v x j nd=>⟨_,(aH (aT (dW (vK rfl) vR b boot_all (aa (i8 none (own:=["at"]) (frees:=["steps"]) (ix:=[0]) rfl (mT a (aa (dW eY eu g fk (aa (vr 0) ah)) ah)) (λc=>(pG 0 (show(["at","steps"]:List Str).Nodup by decide+kernel))) (λc=>(rA j (dX j (dX j (vr 1) (mQ (vr 0) ao)) ao) (dX j (dX j (vr 1) (vr 0)) ao)))) ah)))),λds A R h hl=>?_⟩;obtain⟨r,ss,rfl,h1,l,q⟩:=h;have hz:(1000:Nat)<=sizeLine:=by decide
 refine gI h1 ?_;refine⟨by omega,by rw[aR];omega,?_⟩;refine i7 (f:=λd=>.bl (match d with|.int i=>iZ ss i.toNat|_=>false)) trivial _ _ (λd hd=>?_) (by simp[dP];omega) ?_
 .obtain⟨i,hi,rfl⟩:=br.mp hd
  have hi:=mem_range.mp hi;rw[aR] at hi;have hi:i<ss.length:=hi;refine⟨[.int (0+(i:Nat))],rfl,λQ k=>?_⟩;have o:jg ss.length i<ss.length:=by unfold jg;split<;>omega
  have m:ss[i]?=some ss[i]:=bO hi;have n:ss[jg ss.length i]?=some ss[jg ss.length i]:=bO o;have h2:cM (ss.map av) ((i:Int) - 1)=some (av ss[jg ss.length i]):=GN (by rw[aR];exact hi) (by rw[aR,bH,n];rfl);have p:cM (ss.map av) (i:Int)=some (av ss[i]):=iG (by rw[bH,m];rfl);have s:iZ ss i=decide (ss[jg ss.length i].2.2=ss[i].2.1):=by
   unfold iZ;rw[m,n];simp
  have k:Q (.bl (iZ ss ((0:Int)+(i:Nat)).toNat)) A:=k;rw[show((0:Int)+(i:Nat)).toNat=i by omega,s] at k;rw[show(0:Int)+(i:Nat)=(i:Int) by omega];exact fB h1 h2 (fB h1 p k)
 .have e:([]:List D)++(dP 0 ((((ss.map av).length:Nat):Int)).toNat).map (λd=>D.bl (match d with|.int i=>iZ ss i.toNat|_=>false))=(range ss.length).map λi=>D.bl (iZ ss i):=by
   unfold dP;rw[gx,cY,aR,nM];refine nW λi _=>?_;show D.bl (iZ ss ((0:Int)+(i:Nat)).toNat)=_;rw[show((0:Int)+(i:Nat)).toNat=i by omega]
  rw[e];refine qP aG (qT _ _) ?_;rw[List.all_map];have t:(range ss.length).all (id∘iZ ss)=jR ss:=Hf ss;rw[t];exact q _ Gr.push
end My
namespace DP
open L2 MA
noncomputable def fS(Ts:List Tb)(ss:List aN):Bool:=ss.all (dR Ts)&&jR ss&& !decide (eN Ts ss=1)
inductive oq:D->Prop
 |ai:oq .ai
 |tup (xs:List D):oq (.tup xs)
 |str (z:Str):oq (.str z)
def zM:Ct:=λds A R _=>∃ms x,ds=[.tup (ms.map enc),x]/\gS (.tup (ms.map enc)) ms/\((∃q ss,x=.ref q/\A[q]?=some (.lst (ss.map av))/\ss.length<=45/\∀A',Gr A A'->R (.bl (fS (ms.map aF) ss)) A')\/((oq x\/∃q y,x=.ref q/\A[q]?=some (.lst [y])/\fM A y)/\∀A',Gr A A'->R (.bl false) A'))
end DP
namespace My
open L2 DP MA
theorem Jl(T:TopD K mg "is_ring" EJ tH)(j:mg "isinstance"=none)(r:mg "list"=none)(u:mg "all"=none)(f:aD P w K mg base 13 "hall_shares" pM (aB mg 1 vo))(o:aD P w K mg base 2 "is_step" tK (aB mg 2 zN))(l:aD P w K mg base 1 "is_closed" s_ (aB mg 1 zK))(n:aD P w K mg base 4 "comes_to" pL (aB mg 2 vn)):aD P w K mg base 14 "is_ring" tH (aB mg 2 zM):=by
 refine bW T Pa λG hR J hu nd=>⟨_,(aE (dS 2 nd (dL f G J (aa (vr 0) ah)))
  (aE (cz (PW.pt (fy (e_ (eE (gD Ls j r jk (vr 1)))) (f_ (e_ (eE (dW (vK rfl) vR u boot_all (aa (i8 none (own:=["step"]) (frees:=["by_place"]) (ix:=[2]) rfl (d9 (vr 1)) (λc=>(pG 0 (show(["step","by_place"]:List Str).Nodup by decide+kernel))) (λc=>(dL o G pR (aa (vr 1) (aa (vr 0) ah))))) ah))))))) (aH (aT fO)) cE)
  (aH (aT (mL (dL l G J (aa (vr 1) ah)) (oW (wj hu (dL n G J (aa (vr 2) (aa (vr 1) ah))) (cg (aa ao (aa ao ah)))))))))),λds A R h hl=>?_⟩
 obtain⟨v,x,rfl,L,h⟩:=h;have hz:(1000:Nat)<=sizeLine:=by decide
 obtain⟨_,Y,m6,hm⟩:=id L;have B:v.map aF≠[]:=λz=>by
  have:=bV List.length z;simp at this;rw[this] at Y;simp at Y
 have tok:∀T∈v.map aF,f6 T:=λT hT=>by
  obtain⟨m,M,rfl⟩:=br.mp hT;exact(nG (hm m M)).1
 refine⟨rfl,_,rfl,⟨v,L⟩,λk N A1 O p S l1=>?_,λc=>absurd ⟨v,L⟩ c⟩;have em:k=v:=B8 N;subst em;rcases h with⟨U,ss,rfl,V,E,q⟩|⟨W,q⟩
 .have h1:=p.get V
  have e:=qd h1;conv=>whnf
  rw[e];refine eO h1 ?_;refine vN (λd=>.bl (match d with|.tup [.int i,.str a,.str b]=>dR (k.map aF) (i.toNat,a,b)|_=>false)) _ _ _ (λA' g=>g.get h1) (λd hd A' g=>?_) (by simp;omega) (λA' g=>?_)
  .obtain⟨st,hst,rfl⟩:=br.mp hd
   exact⟨[av st],rfl,λQ X=>⟨rfl,O,_,_,rfl,S.gr g,B,.inl ⟨st,rfl,λH F=>X H F⟩⟩⟩
  have e2:([]:List D)++(ss.map av).map (λd=>D.bl (match d with|.tup [.int i,.str a,.str b]=>dR (k.map aF) (i.toNat,a,b)|_=>false))=ss.map λs=>D.bl (dR (k.map aF) s):=by
   rw[gx,cY];rfl
  rw[e2];refine qP aG (qT _ _) ?_;rw[List.all_map];have e3:ss.all (id∘dR (k.map aF))=ss.all (dR (k.map aF)):=rfl;rw[e3];cases I:ss.all (dR (k.map aF)) with
  |false=>
   have q:=q _ ((p.trans g).trans (Gr.push (T:=[C.lst (ss.map λs=>D.bl (dR (k.map aF) s))])));unfold fS at q;rw[I] at q;exact q
  |true=>
   have hs:∀s∈ss,cS (k.map aF) s:=λs h=>ug.mp (lZ.mp I s h);have Z:Gr A1 (A'++[C.lst (ss.map λs=>D.bl (dR (k.map aF) s))]):=g.trans Gr.push;refine⟨rfl,U,ss,rfl,Z.get h1,by omega,λH F=>?_⟩;have t:=Z.trans F;cases ec:jR ss with
   |false=>
    have q:=q _ (p.trans t);unfold fS at q;rw[I,ec] at q;exact q
   |true=>
    refine⟨rfl,O,U,_,ss,rfl,S.gr t,tok,t.get h1,hs,E,λA3 g3=>?_⟩;have q:=q _ (p.trans (t.trans g3));unfold fS at q;rw[I,ec] at q;exact⟨show 2<=sizeLine by decide,sD (y:=1) q⟩
 .rcases W with W|⟨U,y,rfl,V,hy⟩
  .cases W with
   |ai=>exact q _ p
   |tup xs=>exact q _ p
   |str z=>exact q _ p
  .have h1:=p.get V
   have e:=qd h1;conv=>whnf
   rw[e];refine eO h1 ?_;refine vN (λd=>.bl false) _ _ _ (λA' g=>g.get h1) (λd hd A' g=>?_) (by simp;omega) (λA' g=>?_)
   .rw[b_.mp hd]
    exact⟨[y],rfl,λQ X=>⟨rfl,O,_,_,rfl,S.gr g,B,.inr ⟨hy.gr (p.trans g),λH F=>X H F⟩⟩⟩
   exact qP (bs:=[false]) aG rfl (q _ ((p.trans g).trans Gr.push))
end My
namespace DP
open L2 MA
def fN(k:Nat)(s:aN):Prop:=s.1<k/\s.2.1∈N5/\s.2.2∈N5
def zF:Ct:=λds A R _=>∃(ms:List M) (q:Nat) (ss:List aN),ds=[.tup (ms.map enc),.ref q]/\ms.length<=6/\(∀m∈ms,Fw m)/\A[q]?=some (.lst (ss.map av))/\ss.length<=45/\(∀s∈ss,fN ms.length s)/\∀A',Gr A A'->R (.bl (fS (ms.map aF) ss)) A'
theorem j9{A:Ar}{r:Nat}{lo hi:Option Int}{xs:List D}{R:DK}(h:A[r]?=some (.lst xs))(k:R (.ref A.length) (A++[.lst (cutD xs lo hi)])):p8 r lo hi A R:=by
 unfold p8;simp only[h];exact k
theorem PY{k:Nat}{s:aN}(h:fN k s):Dk 1 (av s):=Bj λd hd=>by
 have hd:d∈[D.int ((s.1:Nat):Int),.str s.2.1,.str s.2.2]:=hd;simp only[cu,gK,gM] at hd;rcases hd with rfl|rfl|rfl
 .exact vZ
 .exact Bh (nj _ h.2.1).ok
 .exact Bh (nj _ h.2.2).ok
theorem vQ(xs:List D):cutD xs (some 1) none=xs.drop 1:=by
 unfold cutD;cases xs with
 |nil=>rfl
 |cons x r=>
  have a:HT.aP (x::r).length 0 (some 1)=1:=by simp[HT.aP]
  have b:HT.aP (x::r).length (x::r).length none=(x::r).length:=rfl;rw[a,b];exact uO (by simp)
theorem vP(xs:List D):cutD xs none (some 1)=xs.take 1:=by
 unfold cutD;cases xs with
 |nil=>rfl
 |cons x r=>
  have a:HT.aP (x::r).length 0 none=0:=rfl;have b:HT.aP (x::r).length (x::r).length (some 1)=1:=by simp[HT.aP]
  rw[a,b];rfl
end DP
namespace My
open L2 DP MA
theorem Jd(T:TopD K mg "_law_due" Ei sL)(i:aD P w K mg base 10 "_law_books" lD (aB mg 1 ow))(j:aD P w K mg base 1 "_law_least" lG (aB mg 2 oz)):aD P w K mg base 11 "_law_due" sL (aB mg 2 zF):=by
 refine bW T OQ λhr hR Y l nd=>⟨_,(aE (dS 2 nd (cg (aa ao (aa ao ah))))
  (aE (dS 3 nd (dL i hr Y (aa (vr 0) ah)))
  (aE (eB dO rfl (d9 (vr 1)) (mR rfl (f9 (dG 4 nd) (f9 (dG 5 nd) (f9 (dG 6 nd) mS)))) (aE (cz (PW.pt (fy (nF l (vr 5) (dX l (vr 3) (vr 4))) (f_ (nF l (vr 6) (dX l (vr 3) (vr 4)))))) (aH (aT fO)) cE)
  (aE (dS 7 nd (dX l (vr 3) (vr 4)))
  (aH (dS 2 nd (dL j hr Y (aa (dY (dY (dX l (vr 2) ao) (dX l (dX l (vr 7) (vr 6)) ao)) (dX l (dX l (vr 7) (vr 5)) ao)) (aa (dY (dY (dX l (vr 2) ao) (dX l (dX l (vr 7) (vr 6)) ao)) (dX l (dX l (vr 7) (vr 5)) ao)) ah))))))))
  (aE (dS 8 nd (rA l (i8 none (own:=["_law_step"]) (frees:=[]) (ix:=[]) rfl (d9 (vr 1)) (λc=>(pG 0 (show(["_law_step"]:List Str).Nodup by decide+kernel))) (λc=>(dX l (vr 0) ao))) (i8 none (own:=["_law_step"]) (frees:=[]) (ix:=[]) rfl (d9 (c8 (jV (vr 1) (i9 ao) mV) (jV (vr 1) mV (i9 ao)))) (λc=>(pG 0 (show(["_law_step"]:List Str).Nodup by decide+kernel))) (λc=>(dX l (vr 0) ao)))))
  (aH (aT (mL (wj l (vr 1) (bK ah)) (mL (vr 8) (oW (wj l (vr 2) (cg (aa ao (aa ao ah))))))))))))),λds A R h hl=>?_⟩
 obtain⟨o,q0,ss,rfl,h6,V,hA,hlen,W,q⟩:=h;have hz:(1000:Nat)<=sizeLine:=by decide
 have ok:=rJ h6 V;have et:D.tup [.int 1,.int 1]=fq 1:=rfl;refine⟨show 2<=sizeLine by decide,rfl,o,rfl,h6,V,λA1 qb Z hB l1=>?_⟩;obtain⟨ts,eb,hD⟩:=hB;have lt:=hD.len;rw[aR] at lt;have E:=Z.get hA;refine eO E ?_;refine d_ (λrest τ A'=>∃(a b:List aN) (x4 x5 x6 x7:Option D),rest=b.map av/\a++b=ss/\(∀s∈a,cS (o.map aF) s)/\τ=[some (.tup (o.map enc)),some (.ref q0),some (fq (eN (o.map aF) a)),some (.ref qb),x4,x5,x6,x7,none]/\Gr A1 A') ?_ ?_ ?_ _ _ _ ⟨[],ss,none,none,none,none,rfl,rfl,λ_ h=>(by cases h),rfl,Gr.refl⟩
 .rintro rest τ A' ⟨_,_,_,_,_,_,_,_,_,_,g⟩
  exact g.get E
 .rintro v rest τ L ⟨a,b,x4,x5,x6,x7,e,m,r,rfl,F⟩ Nx hN
  cases b with
  |nil=>cases e
  |cons st b=>
  cases e;have N:st∈ss:=by rw[<-m];simp
  obtain⟨s1,s2,s3⟩:=W st N;obtain⟨t,ht⟩:∃t,ts[st.1]?=some t:=⟨ts[st.1]'(by omega),bO (by omega)⟩;obtain⟨T,M,hd⟩:=hD.get ht;have O:=dw M;have G:=F.get eb;have hd2:=F.get hd;have H:cM (ts.map D.ref) ((st.1:Nat):Int)=some (.ref t):=iG (by rw[bH,ht];rfl);have no:¬cS (o.map aF) st->R (.bl false) L:=λc=>by
   have e:fS (o.map aF) ss=false:=by
    unfold fS;have:ss.all (dR (o.map aF))=false:=by
     rw[<-Bool.not_eq_true];exact λz=>c (ug.mp (lZ.mp z st N))
    rw[this];rfl
   have q:=q L (Z.trans F);rw[e] at q;exact q
  refine⟨rfl,fB G H ?_⟩;refine jy hd2 rfl ?_;rw[aA rfl,kT];refine cN (λu=>no λ⟨T',k1,k2,k3⟩=>u (by rw[M] at k1;cases k1;exact k2)) (λu=>?_);refine fB G H ?_;refine jy hd2 rfl ?_;rw[aA rfl,kT];refine cN (λB=>no λ⟨T',k1,k2,k3⟩=>B (by rw[M] at k1;cases k1;exact k3)) (λB=>?_);refine fB G H ?_;have hok:cS (o.map aF) st:=⟨T,M,u,B⟩;obtain⟨xp,xa⟩:=Az ok.tok r;obtain⟨bp,ba,bb⟩:=jG V O B;obtain⟨np,na,nb⟩:=jG V O u;have ldn:a.length<=45:=by
   have:=bV List.length m;simp at this;omega
  have eS:eN (o.map aF) (a++[st])=eN (o.map aF) a*(au T st.2.2/au T st.2.1):=by
   rw[qW];unfold dQ;rw[iu M,iu M]
  generalize Y:eN (o.map aF) a=x at*
  have x1:=cT xp;have x2:=cP x;have b1:=cT bp;have b2:=cP (au T st.2.2);have n1:=cT np;have n2:=cP (au T st.2.1);have m1:(rf (au T st.2.2)).1*(rf (au T st.2.1)).2<=81*324:=dc ba nb (eK n2) (by decide);have m0:0<(rf (au T st.2.2)).1*(rf (au T st.2.1)).2:=cJ b1 n2;have k1:0<(rf x).1*(rf (au T st.2.2)).1*(rf (au T st.2.1)).2:=cJ (cJ x1 b1) n2;have k2:0<(rf x).2*(rf (au T st.2.2)).2*(rf (au T st.2.1)).1:=cJ (cJ x2 b2) n1;have k3:(rf x).1*(rf (au T st.2.2)).1*(rf (au T st.2.1)).2<2 ^ 2000:=by
   refine nV ?_ (ye ldn);rw[mul_assoc];exact dc xa (by omega) (eK m0) (lR (by decide))
  refine fH hd2 rfl (gH B) ⟨.inr ⟨by omega,by omega⟩,fH hd2 rfl (gH u) ⟨.inr ⟨by omega,by omega⟩,fH hd2 rfl (gH B) ⟨.inr ⟨by omega,by omega⟩,fH hd2 rfl (gH u) ⟨.inr ⟨by omega,by omega⟩,?_⟩⟩⟩⟩;refine⟨rfl,_,⟨_,_,rfl,k1,k2,k3,rfl⟩,λS X=>?_⟩;refine hN _ _ ⟨a++[st],b,some (.int ((st.1:Nat):Int)),some (.str st.2.1),some (.str st.2.2),some (.ref t),rfl,by simpa using m,λs hs=>?_,?_,F.trans X⟩
  .rcases ck.mp hs with hs|hs
   .exact r s hs
   .rw[b_.mp hs];exact hok
  .rw[eS]
   show [_,_,some (D.tup [.int (rd _ _).1,.int (rd _ _).2]),_,_,_,_,_,_]=_;rw[wJ k2,FA xp bp np]
 rintro τ L ⟨a,b,x4,x5,x6,x7,e,m,r,rfl,F⟩;cases b with
 |cons _ _=>cases e
 |nil=>
 have m:a=ss:=by simpa using m
 subst m;have I:=F.get E;refine eO I ?_;refine i7 (f:=λd=>match d with|.tup [_,_,c]=>c|d=>d) I _ _ (λd hd=>?_) (by simp;omega) ?_
 .obtain⟨st,_,rfl⟩:=br.mp hd
  exact⟨[av st],rfl,λQ hQ=>hQ⟩
 have e1:([]:List D)++(a.map av).map (λd=>match d with|.tup [_,_,c]=>c|d=>d)=(a.map λs=>s.2.2).map D.str:=by
  rw[gx,cY,cY];rfl
 rw[e1];generalize U:L++[C.lst ((a.map λs=>s.2.2).map D.str)]=S;have h3:S[L.length]?=some (.lst ((a.map λs=>s.2.2).map D.str)):=by rw[<-U];exact aG
 have X:Gr L S:=by rw[<-U];exact Gr.push
 have p:=X.get I;refine j9 p (j9 (getElem?_push p) (iJ (getElem?_push aG) aG (by rw[vQ,vP];simp;omega) ?_));rw[vQ,vP];have e2:(a.map av).drop 1++(a.map av).take 1=(a.drop 1++a.take 1).map av:=by
  rw[cX,map_drop,map_take]
 rw[e2];refine eO aG ?_;refine i7 (f:=λd=>match d with|.tup [_,c,_]=>c|d=>d) aG _ _ (λd hd=>?_) (by simp;omega) ?_
 .obtain⟨st,_,rfl⟩:=br.mp hd
  exact⟨[av st],rfl,λQ hQ=>hQ⟩
 have e3:([]:List D)++((a.drop 1++a.take 1).map av).map (λd=>match d with|.tup [_,c,_]=>c|d=>d)=((a.drop 1++a.take 1).map λs=>s.2.1).map D.str:=by
  rw[gx,cY,cY];rfl
 rw[e3];refine IP (getElem?_push (getElem?_push (getElem?_push (getElem?_push h3)))) aG (λn hn=>?_) (λn hn=>?_) ?_
 .obtain⟨s,hs,rfl⟩:=br.mp hn
  exact nj _ (W s hs).2.2
 .obtain⟨s,hs,rfl⟩:=br.mp hn
  have:s∈a:=by
   rcases ck.mp hs with hs|hs
   .exact uC hs
   .exact lO hs
  exact nj _ (W s this).2.1
 have g4:Gr A S:=(Z.trans F).trans X;obtain⟨p1,p2,_⟩:=rq (k:=1) (xs:=a.map av) λd hd=>by
  obtain⟨s,hs,rfl⟩:=br.mp hd;exact PY (W s hs)
 have ea:a.all (dR (o.map aF))=true:=lZ.mpr λs hs=>ug.mpr (r s hs);have J:=λA' g=>q A' g;unfold fS at J;rw[ea] at J;refine⟨cV _,C1 (getElem?_push (getElem?_push (getElem?_push (getElem?_push p)))) p1 p2 ?_⟩;have gf:∀u B c3 c4 c5:Ar,Gr A (S++u++B++c3++c4++c5):=λ_ _ _ _ _=>((((g4.trans Gr.push).trans Gr.push).trans Gr.push).trans Gr.push).trans Gr.push;refine cN (λc=>?_) (λc=>?_)
 .have IF:decide (a.map (λs=>s.2.2)=(a.drop 1++a.take 1).map (λs=>s.2.1))=jR a:=rfl
  rw[IF];cases ec:jR a with
  |false=>
   rw[ec] at J;exact J _ (gf _ _ _ _ _)
  |true=>
   rw[ec] at J;exact⟨show 2<=sizeLine by decide,sD (y:=1) (J _ (gf _ _ _ _ _))⟩
 .have c:a=[]:=by simpa using c
  subst c;exact J _ (gf _ _ _ _ _)
end My
namespace DP
open L2 MA
noncomputable def gq(w:Str->Rat):List Str->Rat
 |[]=>1
 |n::l=>w n*gq w l
theorem Dz{w:Str->Rat}(h:∀n,0<w n):∀l,0<gq w l
 |[]=>by show(0:Rat)<1;decide
 |n::l=>lY (h n) (Dz h l)
theorem yg(w:Str->Rat):∀a b,gq w (a++b)=gq w a*gq w b
 |[],b=>(Rat.one_mul _).symm
 |n::a,b=>by
  show w n*gq w (a++b)=w n*gq w a*gq w b;rw[yg w a b,Rat.mul_assoc]
theorem BE{a:List Tb}{w:Str->Rat}(b:∀T∈a,f6 T)(h:Cs a w):∀(l:List aN) (x:Rat),(∀s∈l,cS a s)->l.foldl (λx s=>x*dQ a s) x*gq w (l.map λs=>s.2.1)=x*gq w (l.map λs=>s.2.2)
 |[],x,_=>rfl
 |s::l,x,c=>by
  have f:=BE b h l (x*dQ a s) λy d=>c y (cj _ d);have e:=E_ b h (c s (cR ..));rw[iA,cB,cB];show _*(w s.2.1*gq w _)=x*(w s.2.2*gq w _);rw[<-e];grind
theorem Ox{a:List Tb}(d:∀T∈a,f6 T){ss:List aN}(h:fS a ss=true):¬∃w,Cs a w:=by
 rintro ⟨w,b⟩;unfold fS at h;rw[jK,jK] at h;obtain⟨⟨h1,h2⟩,c⟩:=h;have f:∀s∈ss,cS a s:=λs h=>ug.mp (lZ.mp h1 s h);have e:=BE d b ss 1 f;have g:ss.map (λs=>s.2.2)=(ss.drop 1++ss.take 1).map (λs=>s.2.1):=fE h2;have i:gq w ((ss.drop 1++ss.take 1).map λs=>s.2.1)=gq w (ss.map λs=>s.2.1):=by
  rw[cX,yg,Rat.mul_comm,<-yg,<-cX,List.take_append_drop]
 rw[g,i,Rat.one_mul] at e;have p:=lz (Dz b.pos (ss.map λs=>s.2.1));have:eN a ss=1:=by
  show ss.foldl (λx s=>x*dQ a s) 1=1;grind
 rw[this] at c;simp at c
theorem cK.but{A A':Ar}{r:Nat}{xs:List D}(b:bS r A A')(a:A[r]?=some (.lst xs)):∀{ts:List Nat} {c:List Tb},cK A ts c->cK A' ts c
 |[],[],_=>trivial
 |t::_,_::_,h=>⟨b t _ (λz=>by
  have:=h.1;rw[z,a] at this;cases this) h.1,cK.but b a h.2⟩
 |[],_::_,h=>h.elim
 |_::_,[],h=>h.elim
theorem nY.but{A A':Ar}{r a:Nat}{d:List Tb}{xs:List D}(h:nY A a d)(b:bS r A A')(e:A[r]?=some (.lst xs))(c:a≠r):nY A' a d:=by
 obtain⟨ts,h1,h2⟩:=h;exact⟨ts,b a _ c h1,h2.but b e⟩
structure W8(t qb:Nat)(Ts:List Tb)(n:Nat)(A:Ar):Prop where
 tw:Tw t n A
 bk:nY A qb Ts
 ne:qb≠t
theorem W8.dr{t a n m:Nat}{c:List Tb}{A A':Ar}(h:W8 t a c n A)(b:bS t A A')(tw:Tw t m A'):W8 t a c m A':=by
 obtain⟨xs,e,_⟩:=h.tw;exact⟨tw,h.bk.but b e h.ne,h.ne⟩
theorem W8.gr{t a n:Nat}{b:List Tb}{A A':Ar}(h:W8 t a b n A)(g:Gr A A'):W8 t a b n A':=by
 obtain⟨ts,h1,h2⟩:=h.bk;exact⟨h.tw.gr g,⟨ts,g.get h1,h2.gr g⟩,h.ne⟩
theorem W8.put{t a n q:Nat}{b:List Tb}{A:Ar}{xs ys:List D}(h:W8 t a b n A)(c:A[q]?=some (.lst xs))(h1:q≠t)(h2:q≠a):W8 t a b n (A.set q (.lst ys)):=by
 obtain⟨zs,e,l⟩:=h.tw;exact⟨⟨zs,by rw[fm h1];exact e,l⟩,h.bk.but bS.set c (Ne.symm h2),h.ne⟩
theorem W8.lt{t a n:Nat}{b:List Tb}{A:Ar}(h:W8 t a b n A):t<A.length/\a<A.length:=by
 obtain⟨zs,e,l⟩:=h.tw;obtain⟨ts,c,_⟩:=h.bk;exact⟨bU e,bU c⟩
theorem yx{a b:cZ}{K:jN}{τ:bq}{A:Ar}(J:bq->Ar->Prop)(c:∀τ A,J τ A->b K τ A)(d:(∀τ A,J τ A->b K τ A)->pZ a b K τ A):pZ a b K τ A:=d c
theorem KU{c:ef}{a b:cZ}{K:jN}{τ:bq}{A:Ar}(J:bq->Ar->Prop)(h1:∀τ A,J τ A->a K τ A)(h:(∀τ A,J τ A->a K τ A)->nB c a b K τ A):nB c a b K τ A:=h h1
theorem uf{n a d:Nat}(h:a<=n):HT.aP n d (some ((a:Nat):Int))=a:=by
 rw[HT.Eb];omega
theorem AG{xs:List D}{a:Nat}(h:a<=xs.length):cutD xs (some ((a:Nat):Int)) (some (((a:Nat):Int)+1))=(xs.drop a).take 1:=by
 unfold cutD;rw[uf h];by_cases c:a<xs.length
 .rw[show((a:Nat):Int)+1=((a+1:Nat):Int) by omega,uf (by omega),show a+1 - a=1 by omega]
 .rw[uL (by omega)]
  simp
theorem Hr{xs:List D}{a:Nat}(h:a<=xs.length):cutD xs none (some ((a:Nat):Int))=xs.take a:=by
 unfold cutD;rw[uf h];show(xs.drop 0).take (a - 0)=_;rw[List.drop_zero,Nat.sub_zero]
theorem Hq{xs:List D}{a:Nat}(h:a<=xs.length):cutD xs (some (((a:Nat):Int)+1)) none=xs.drop (a+1):=by
 unfold cutD;by_cases c:a<xs.length
 .rw[show((a:Nat):Int)+1=((a+1:Nat):Int) by omega,uf (by omega)]
  exact uO (by rw[mw];exact aI _)
 .have e:HT.aP xs.length xs.length none=xs.length:=rfl
  have b:HT.aP xs.length 0 (some (((a:Nat):Int)+1))=xs.length:=by
   rw[show((a:Nat):Int)+1=((a+1:Nat):Int) by omega,HT.Eb];omega
  rw[e,b,uL (aI _),uL (by omega),List.take_nil]
structure Th(A:Ar)(q k b:Nat)(ss:List aN):Prop where
 get:A[q]? =some (.lst (ss.map av))
 s5:∀s∈ss,fN k s
 len:ss.length<=b
end DP
namespace DP
open L2
section
variable{es:List Expr}{env:Env}{p:Pos}
theorem z5{x n:Str}:attributeBase (.Name x p) n env (eval (.Name x p) env)=eval (.Name x p) env:=rfl
theorem Bv{l:List Expr}{c a:Pos}:((backTo c (starEach [.List l a] env)).all (λx=> !x.1)&&(backToKw c (keywordEach [] env)).all (λx=>x.1.isSome)
 &&decide (([Expr.List l a]).length+([]:List Keyword).length+(if ([]:List Keyword).isEmpty then 0 else 1)<30))=true:=rfl
theorem Dt{q:Pos}:(backTo q (starEach [] env)).any (·.1)=false:=rfl
theorem Ff{o a k b p2}{n:Str}{x}:swapsWith (.Call (.Attribute o n b) a k p2) none x env=pure false:=rfl
theorem Ma{X:Cx}:oj X "list.extend" yl:=xU
theorem L_{X:Cx}:oj X "list.append" yi:=j5
end
end DP
namespace My
open L2 DP MA
def cQ(i:Nat):Stmt:=(fP d7).getD i (.Pass ⟨0,0,0,0⟩)
theorem PK:fP d7=[cQ 0,cQ 1,cQ 2,cQ 3,cQ 4,cQ 5,cQ 6,cQ 7,cQ 8,cQ 9,cQ 10,cQ 11]:=rfl
def xP:aM:=(fF (aO (dC .ai) (aO (jt bT) (aO (fF bT) (aO (fF (aO (dC .ai) bT)) (aO (fF (aO (jt (aO (dC (.int 0)) (aO (dC (.str "a")) bT))) bT)) (aO (fF (aO (jt (aO (kM rZ (aO (dh 2) bT)) (aO (dC (.str "a")) (aO (dC (.str "a")) bT)))) bT)) (aO (fF (aO (jt (aO (dC (.bl true)) (aO (dC (.str "a")) (aO (dC (.str "a")) bT)))) bT)) (aO (kM ur (aO (dh 3) bT)) bT)))))))))
theorem Qy:∃(s t u v w x y z A a b c d e f g h i j k l m n o p q r:Pos),cQ 8=.Assign [.Name "_law_bad" s] (.List [.Constant .none 0 t,.Tuple [] 0 u,.List [] v,.List [.Constant .none 0 w] x,.List [.Tuple [.Constant (.int 0) 0 y,.Constant (.str "a") 0 z] 0 A] a,.List [.Tuple [.Call (.Name "len" b) [.Name "_law_hall_here" c] [] d,.Constant (.str "a") 0 e,.Constant (.str "a") 0 f] 0 g] h,.List [.Tuple [.Constant (.bool true) 0 i,.Constant (.str "a") 0 j,.Constant (.str "a") 0 k] 0 l] m,.Call (.Name "tuple" n) [.Name "_law_thing" o] [] p] q) r:=
 ⟨_,_,_,_,_,_,_,_,_,_,_,_,_,_,_,_,_,_,_,_,_,_,_,_,_,_,_,rfl⟩
theorem PF{X:Cx}{N:En}(nd:X.N.Nodup)(hi:X.N[14]?=some ("_law_bad":Str))(e:Loc X.env.scope "_law_bad")(f:X.fn ("_law_bad":Str)=true\/X.env.scope.names.lookup ("_law_bad":Str)=some .local)(b:∀c p2 d,PE X (.Call (.Name "len" c) [.Name "_law_hall_here" p2] [] d) (up X.mg N (kM rZ (aO (dh 2) bT))))(a:∀c p2 d,PE X (.Call (.Name "tuple" c) [.Name "_law_thing" p2] [] d) (up X.mg N (kM ur (aO (dh 3) bT)))):PS X (cQ 8) (bB X.mg N (lI 14 xP)):=by
 obtain⟨A,B,C,D,E,F,G,H,I,g,h,j,k,l,m,n,o,p,q,r,s,t,u,v,w,x,y,z⟩:=Qy;rw[z];unfold xP;with_reducible exact Bm (i:=14) nd hi e (bK (aa jU (aa (cg ah) (aa (bK ah) (aa (bK (aa jU ah dH)) (aa (bK (aa (cg (aa ao (aa bG ah dH) dH)) ah j8)) (aa (bK (aa (cg (aa (b _ _ _) (aa bG (aa bG ah dH) dH) EZ)) ah j8)) (aa (bK (aa (cg (aa fO (aa bG (aa bG ah dH) dH) dH)) ah j8)) (aa (a _ _ _) ah EZ) fT) fT) fT) fT) fT) j8) dH)) P4 f
def xQ:aM:=(fF (aO (fF (aO (jt (aO (dC (.int 0)) (aO (dC .ai) (aO (dC .ai) bT)))) bT)) (aO (fF (aO (fF (aO (dC (.str "a")) (aO (dC (.str "a")) (aO (dC (.int 0)) bT)))) bT)) (aO (dC (.str "ring")) (aO (fF (aO (jt (aO (dC (.int 0)) (aO (dC (.str "zzz")) (aO (dC (.str "zzz")) bT)))) bT)) (aO (fF (aO (jt (aO (dC (.int 0)) (aO (fF (aO (dC (.str "a")) bT)) (aO (dC (.str "a")) bT)))) bT)) bT))))))
theorem Qz:∃(u s t v w x y z A a b c d e f g h i j k l m n o p q r:Pos),cQ 9=.Expr (.Call (.Attribute (.Name "_law_bad" u) "extend" s) [.List [.List [.Tuple [.Constant (.int 0) 0 w,.Constant .none 0 x,.Constant .none 0 y] 0 z] A,.List [.List [.Constant (.str "a") 0 a,.Constant (.str "a") 0 b,.Constant (.int 0) 0 c] d] e,.Constant (.str "ring") 0 f,.List [.Tuple [.Constant (.int 0) 0 g,.Constant (.str "zzz") 0 h,.Constant (.str "zzz") 0 i] 0 j] k,.List [.Tuple [.Constant (.int 0) 0 l,.List [.Constant (.str "a") 0 m] n,.Constant (.str "a") 0 o] 0 p] q] r] [] t) v/\(s.endLine==t.line)=true:=
 ⟨_,_,_,_,_,_,_,_,_,_,_,_,_,_,_,_,_,_,_,_,_,_,_,_,_,_,_,rfl,rfl⟩
theorem PJ{X:Cx}{N:En}(a:∀p,PE X (.Name "_law_bad" p) (up X.mg N (dh 14))):PS X (cQ 9) (bB X.mg N (pY (qY wA (dh 14) (aO xQ bT)))):=by
 obtain⟨v,w,x,y,z,A,B,C,D,b,c,d,e,f,g,h,i,j,k,l,m,n,o,q,r,s,t,u,hl⟩:=Qz;rw[u];unfold xQ;with_reducible exact gm (gX iz slot_list_extend type_list_extend Ma vS (a _) (aa (bK (aa (bK (aa (cg (aa ao (aa jU (aa jU ah dH) dH) dH)) ah j8)) (aa (bK (aa (bK (aa bG (aa bG (aa ao ah dH) dH) dH)) ah fT)) (aa bG (aa (bK (aa (cg (aa ao (aa bG (aa bG ah dH) dH) dH)) ah j8)) (aa (bK (aa (cg (aa ao (aa (bK (aa bG ah dH)) (aa bG ah dH) fT) dH)) ah j8)) ah fT) fT) dH) fT) fT)) ah fT) z5 Bv hl fT Dt) Ff
def xO:aM:=(fF (aO (jt (aO (dC (.int 0)) (aO (dC (.str "a")) (aO (fF (aO (dC (.str "a")) bT)) bT)))) bT))
theorem Qx:∃(d b c e f g h i j a:Pos),cQ 10=.Expr (.Call (.Attribute (.Name "_law_bad" d) "append" b) [.List [.Tuple [.Constant (.int 0) 0 f,.Constant (.str "a") 0 g,.List [.Constant (.str "a") 0 h] i] 0 j] a] [] c) e/\(b.endLine==c.line)=true:=
 ⟨_,_,_,_,_,_,_,_,_,_,rfl,rfl⟩
theorem PD{X:Cx}{N:En}(a:∀p,PE X (.Name "_law_bad" p) (up X.mg N (dh 14))):PS X (cQ 10) (bB X.mg N (pY (qY qR (dh 14) (aO xO bT)))):=by
 obtain⟨d,e,f,g,h,i,j,k,l,b,c,hl⟩:=Qx;rw[c];unfold xO;with_reducible exact gm (gX iz lW l9 L_ kN (a _) (aa (bK (aa (cg (aa ao (aa bG (aa (bK (aa bG ah dH)) ah fT) dH) dH)) ah j8)) ah fT) z5 Bv hl fT Dt) Ff
end My
namespace DP
open L2 MA
def jQ(r:Nat):Nat:=if r=0 then 42 else if r=1 then 20 else 9
theorem GU(r:Nat):9<=jQ r:=by
 unfold jQ;split
 .decide
 .split<;>decide
theorem GV{r:Nat}(h:r+1<=2):2*(jQ (r+1)+1)<=jQ r:=by
 have:r=0\/r=1:=by omega
 rcases this with rfl|rfl<;>decide
theorem Th.gr{A A':Ar}{q k b:Nat}{ss:List aN}(h:Th A q k b ss)(g:Gr A A'):Th A' q k b ss:=⟨g.get h.get,h.s5,h.len⟩
theorem Th.dr{A A':Ar}{t q k b:Nat}{ss:List aN}(h:Th A q k b ss)(g:bS t A A')(a:q≠t):Th A' q k b ss:=⟨g _ _ a h.get,h.s5,h.len⟩
theorem GY(ss:List aN):(ss.map av).reverse.map (λd=>match d with|.tup [a,b,c]=>D.tup [a,c,b]|d=>d)=(bwd ss).map av:=by
 unfold bwd;rw[<-List.map_reverse,cY,cY];rfl
theorem GX{k:Nat}{ss:List aN}(h:∀s∈ss,fN k s):∀s∈bwd ss,fN k s:=λs d=>by
 unfold bwd at d;obtain⟨s',h1,rfl⟩:=br.mp d;obtain⟨a,b,c⟩:=h s' (mem_reverse.mp h1);exact⟨a,c,b⟩
structure Nw(A:Ar)(k a n:Nat)(r:Nat)(ls:List aN):Prop where
 get:A[r]? =some (.lst (ls.map av))
 s5:∀s∈ls,fN k s
 len:ls.length<=1\/(ls.length<=2/\a<n)
theorem qQ{k:Nat}{a b:List aN}(c:∀s∈a,fN k s)(d:∀s∈b,fN k s):∀s∈a++b,fN k s:=λs e=>(ck.mp e).elim (c s) (d s)
theorem uh{k:Nat}{a b:List aN}(c:∀s∈a,fN k s)(h:∀s∈b,s∈a):∀s∈b,fN k s:=λs d=>c s (h s d)
theorem Mg{A:Ar}{k a q:Nat}{ss:List aN}{st:aN}(o:∀s∈ss,fN k s)(p:fN k st)(b i d e j:Ar)(t:b=A++[C.lst [av st]])(u:i=b++[C.lst []])(l:d=i++[C.lst (((ss.map av).drop a).take 1)])(f:e=d++[C.lst (replicate 2 (((ss.map av).drop a).take 1)).flatten])(m:j=e++[C.lst (((ss.map av).drop a).take 1)]):∀x∈[D.ref A.length,D.ref b.length,D.ref d.length,D.ref e.length],∃r ls,x=.ref r/\A.length<=r/\Nw j k a ss.length r ls:=by
 have v:((ss.map av).drop a).take 1=((ss.drop a).take 1).map av:=by rw[map_take,map_drop]
 have l1:((ss.drop a).take 1).length<=1:=by rw[jM];omega
 have g:∀s∈(ss.drop a).take 1,fN k s:=uh o λs h=>uC (lO h);rw[v] at l f m;have w:(replicate 2 (((ss.drop a).take 1).map av)).flatten=((ss.drop a).take 1++(ss.drop a).take 1).map av:=by
  rw[cX];show((ss.drop a).take 1).map av++(((ss.drop a).take 1).map av++[])=_;rw[kr]
 rw[w] at f;subst t u l f m;intro x n;simp only[cu,gK,gM] at n;rcases n with rfl|rfl|rfl|rfl
 .exact⟨_,[st],rfl,aI _,getElem?_push (getElem?_push (getElem?_push (getElem?_push aG))),λs h=>by rw[b_.mp h];exact p,.inl (by simp)⟩
 .exact⟨_,[],rfl,by simp,getElem?_push (getElem?_push (getElem?_push aG)),(λs h=>by cases h),.inl (by simp)⟩
 .refine⟨_,_,rfl,by simp<;>omega,getElem?_push aG,qQ g g,?_⟩
  by_cases c:a<ss.length
  .exact .inr ⟨by rw[dI];omega,c⟩
  .left
   rw[uL (by omega)];simp
 .exact⟨_,_,rfl,by simp<;>omega,aG,g,.inl l1⟩
theorem QW{A:Ar}{k b q:Nat}{ss:List aN}(th:Th A q k b ss)(a:Nat)(o:A[a]?=some (.lst ((bwd ss).map av)))(f c d i:Ar)(p:f=A++[C.lst ((ss.map av).drop 1)])(t:c=f++[C.lst ((ss.map av).take 1)])(j:d=c++[C.lst ((ss.map av).drop 1++(ss.map av).take 1)])(m:i=d++[C.lst (ss.map av++ss.map av)]):∀x∈[D.ref q,D.ref c.length,D.ref a,D.ref d.length],∃r ls,x=.ref r/\(r=q\/r=a\/A.length<=r)/\Th i r k (2*b) ls:=by
 obtain⟨g,s5,l⟩:=th;have e:(ss.map av).drop 1++(ss.map av).take 1=(ss.drop 1++ss.take 1).map av:=by rw[cX,map_drop,map_take]
 rw[e] at j;rw[<-cX] at m;subst p t j m;intro x n;simp only[cu,gK,gM] at n;rcases n with rfl|rfl|rfl|rfl
 .exact⟨_,ss,rfl,.inl rfl,getElem?_push (getElem?_push (getElem?_push (getElem?_push g))),s5,by omega⟩
 .exact⟨_,_,rfl,.inr (.inr (by simp<;>omega)),getElem?_push aG,uh s5 λs h=>(ck.mp h).elim uC lO,by rw[D6];omega⟩
 .exact⟨_,_,rfl,.inr (.inl rfl),getElem?_push (getElem?_push (getElem?_push (getElem?_push o))),GX s5,by simp[bwd];omega⟩
 .exact⟨_,_,rfl,.inr (.inr (by simp<;>omega)),aG,qQ s5 s5,by rw[dI];omega⟩
theorem fM.but{A A':Ar}{r:Nat}{x:D}(h:fM A x)(b:bS r A A')(hl:∃ys,A'[r]?=some (.lst ys)):fM A' x:=by
 have key:∀(q:Nat) (xs:List D),A[q]?=some (.lst xs)->∃ys,A'[q]?=some (.lst ys):=λq xs e=>by
  by_cases c:q=r
  .rw[c];exact hl
  .exact⟨xs,b q _ c e⟩
 cases h with
 |ai=>exact .ai
 |two i a=>exact .two i a
 |tr a b=>exact .tr a b
 |nn=>exact .nn
 |ls h=>obtain⟨_,e⟩:=key _ _ h;exact .ls e
 |l1 b h=>obtain⟨_,e⟩:=key _ _ h;exact .l1 b e
 |l2 b h=>obtain⟨_,e⟩:=key _ _ h;exact .l2 b e
def iB(A:Ar)(Ts:List Tb)(t p:Nat)(x:D):Prop:=oq x\/(∃q y,x=.ref q/\q≠t/\q≠p/\A[q]?=some (.lst [y])/\fM A y)\/∃q ss,x=.ref q/\q≠t/\q≠p/\A[q]?=some (.lst (ss.map av))/\ss.length<=45/\fS Ts ss=false
theorem iB.gr{A A':Ar}{a:List Tb}{t p:Nat}{x:D}(h:iB A a t p x)(g:Gr A A'):iB A' a t p x:=by
 rcases h with h|⟨q,y,e,n1,n2,h,o⟩|⟨q,ss,e,n1,n2,h,l,b⟩
 .exact .inl h
 .exact .inr (.inl ⟨q,y,e,n1,n2,g.get h,o.gr g⟩)
 .exact .inr (.inr ⟨q,ss,e,n1,n2,g.get h,l,b⟩)
theorem iB.but{A A':Ar}{a:List Tb}{t p r:Nat}{x:D}(h:iB A a t p x)(c:r=t\/r=p)(b:bS r A A')(hl:∃ys,A'[r]?=some (.lst ys)):iB A' a t p x:=by
 rcases h with h|⟨q,y,e,n1,n2,h,o⟩|⟨q,ss,e,n1,n2,h,l,z⟩
 .exact .inl h
 .exact .inr (.inl ⟨q,y,e,n1,n2,b q _ (by rcases c with rfl|rfl<;>assumption) h,o.but b hl⟩)
 .exact .inr (.inr ⟨q,ss,e,n1,n2,b q _ (by rcases c with rfl|rfl<;>assumption) h,l,z⟩)
theorem Ow(a:List Tb):fS a []=false:=by
 have:eN a []=1:=rfl;unfold fS;rw[this];simp
theorem D5{a:List Tb}{s:aN}(h:dR a s=false):fS a [s]=false:=by
 unfold fS;simp[h]
end DP
namespace My
open L2 DP MA
theorem Jr{fo:Addr}{fd:FuncData}(T:jn K "law" "law" d7 fo fd)(vF:mg "list"=none)(Ac:mg "range"=none)(GS:mg "tuple"=none)(vE:mg "len"=none)(GR:mg "enumerate"=none)(U:mg "isinstance"=none)(GQ:mg "bool"=none)(m:aD P w K mg base 3 "_law_draw" lE (aB mg 3 mG))(g:aD P w K mg base 4 "_law_pick" nu (aB mg 3 oA))(FT:aD P w K mg base 8 "_law_hall" sM (aB mg 2 zI))(FU:aD P w K mg base 14 "ring" tO (aB mg 1 zX))(V:aD P w K mg base 10 "_law_books" lD (aB mg 1 ow))(O:aD P w K mg base 14 "is_ring" tH (aB mg 2 zM))(FQ:aD P w K mg base 11 "_law_due" sL (aB mg 2 zF))(W:aD P w K mg base 12 "_law_agree" sI (aB mg 1 zy)):fW P w K mg base (aY P w) 26 fo fd yb (aB mg 1 zO):=by
 refine JK T E3 rfl (by decide) λN RE f M B outer s H E X hR hx ds A R h hl=>?_;have hu:=X.units;have nd:=E3.nd;have S0:=(show PS (bA (aY P w) P w K mg base ["_law_script","_law_town","_law_hall_here","_law_thing","_law_books_here","_law_here","_law_k","_law_place","_law_other","_law_at","_law_step","_law_news","_law_about","_law_found","_law_bad"] "law" (aJ d7) f M B outer s H E) (cQ 0) (bB mg N _) from (dS 1 nd (bK ah)));have S1:=(show PS (bA (aY P w) P w K mg base ["_law_script","_law_town","_law_hall_here","_law_thing","_law_books_here","_law_here","_law_k","_law_place","_law_other","_law_at","_law_step","_law_news","_law_about","_law_found","_law_bad"] "law" (aJ d7) f M B outer s H E) (cQ 1) (bB mg N _) from (dS 2 nd (dL FT X hx (aa (vr 0) (aa (vr 1) ah)))));have S2:=(show PS (bA (aY P w) P w K mg base ["_law_script","_law_town","_law_hall_here","_law_thing","_law_books_here","_law_here","_law_k","_law_place","_law_other","_law_at","_law_step","_law_news","_law_about","_law_found","_law_bad"] "law" (aJ d7) f M B outer s H E) (cQ 2) (bB mg N _) from (dS 3 nd (dL FU X hx (aa (vr 2) ah))));have S3:=(show PS (bA (aY P w) P w K mg base ["_law_script","_law_town","_law_hall_here","_law_thing","_law_books_here","_law_here","_law_k","_law_place","_law_other","_law_at","_law_step","_law_news","_law_about","_law_found","_law_bad"] "law" (aJ d7) f M B outer s H E) (cQ 3) (bB mg N _) from (dS 4 nd (dL V X hx (aa (vr 2) ah))));have S4:=(show PS (bA (aY P w) P w K mg base ["_law_script","_law_town","_law_hall_here","_law_thing","_law_books_here","_law_here","_law_k","_law_place","_law_other","_law_at","_law_step","_law_news","_law_about","_law_found","_law_bad"] "law" (aJ d7) f M B outer s H E) (cQ 4) (bB mg N _) from (cz (PW.pt (fy (QB (vr 3) jU) (f_ (jh hu (dL m X hx (aa (vr 0) (aa (vr 1) (aa ao ah)))) ao)))) (@aE _ _ _ _ _ _ (dS 3 nd (bK ah)) (@aE _ _ _ _ _ _ (dS 5 nd (dL g X hx (aa (vr 0) (aa (vr 1) (aa (gW (kJ rfl) kO vF jk (aa (dX hu (vr 4) ao) ah)) ah))))) (@aH _ _ _ _ (eB dO rfl (mT Ac (aa (dL m X hx (aa (vr 0) (aa (vr 1) (aa ao ah)))) ah)) (dG 6 nd) (@aE _ _ _ _ _ _ (dS 7 nd (dL g X hx (aa (vr 0) (aa (vr 1) (aa (H_ (some 2) (own:=["_law_at","_law_book"]) (frees:=["_law_here"]) (ix:=[5]) rfl (vX GR (aa (vr 4) ah)) (λc=>(nv rfl (gp (pG 0 (show(["_law_at","_law_book","_law_here"]:List Str).Nodup by decide+kernel)) (gp (pG 1 (show(["_law_at","_law_book","_law_here"]:List Str).Nodup by decide+kernel)) ny)))) (λc=>(yM hu (vr 2) (vr 1))) (λc=>(vr 0))) ah))))) (@aE _ _ _ _ _ _ (dS 8 nd (dL g X hx (aa (vr 0) (aa (vr 1) (aa (gW (kJ rfl) kO vF jk (aa (dX hu (vr 4) (vr 7)) ah)) ah))))) (@aE _ _ _ _ _ _ (gm (gX iz lW l9 j5 kN (vr 3) (aa (cg (aa (vr 7) (aa (vr 5) (aa (vr 8) ah)))) ah))) (@aH _ _ _ _ (dS 5 nd (vr 8)))))))))) cE));have S5:=(show PS (bA (aY P w) P w K mg base ["_law_script","_law_town","_law_hall_here","_law_thing","_law_books_here","_law_here","_law_k","_law_place","_law_other","_law_at","_law_step","_law_news","_law_about","_law_found","_law_bad"] "law" (aJ d7) f M B outer s H E) (cQ 5) (bB mg N _) from (eB dO rfl (mT Ac (aa (dL m X hx (aa (vr 0) (aa (vr 1) (aa ao ah)))) ah)) (dG 6 nd) (@aE _ _ _ _ _ _ (dS 9 nd (dL m X hx (aa (vr 0) (aa (vr 1) (aa (c8 (dW eY eu vE fk (aa (vr 3) ah)) ao) ah))))) (@aE _ _ _ _ _ _ (dS 7 nd (dL m X hx (aa (vr 0) (aa (vr 1) (aa (dW eY eu vE fk (aa (vr 2) ah)) ah))))) (@aE _ _ _ _ _ _ (dS 10 nd (cg (aa (vr 7) (aa (dL g X hx (aa (vr 0) (aa (vr 1) (aa (gW (kJ rfl) kO vF jk (aa (dX hu (vr 4) (vr 7)) ah)) ah)))) (aa (dL g X hx (aa (vr 0) (aa (vr 1) (aa (bK (aa bG (aa bG (aa bG (aa bG (aa bG ah)))))) ah)))) ah))))) (@aE _ _ _ _ _ _ (dS 11 nd (bK (aa (bK (aa (vr 10) ah)) (aa (bK ah) (aa (Ie (jV (vr 3) (i9 (vr 9)) (i9 (c8 (vr 9) ao))) ao) (aa (jV (vr 3) (i9 (vr 9)) (i9 (c8 (vr 9) ao))) ah)))))) (@aE _ _ _ _ _ _ (dS 3 nd (c8 (c8 (jV (vr 3) mV (i9 (vr 9))) (dL g X hx (aa (vr 0) (aa (vr 1) (aa (vr 11) ah))))) (jV (vr 3) (i9 (c8 (vr 9) ao)) mV))) (@aE _ _ _ _ _ _ (v8 (some 3) (own:=["_law_place","_law_one","_law_other"]) (frees:=[]) (ix:=[]) (i:=12) nd rfl (by first|exact Or.inl rfl|exact Or.inr rfl) rfl (d9 (Ig (vr 3) (Ic ao))) (λc=>(nv rfl (gp (pG 0 (show(["_law_place","_law_one","_law_other"]:List Str).Nodup by decide+kernel)) (gp (pG 1 (show(["_law_place","_law_one","_law_other"]:List Str).Nodup by decide+kernel)) (gp (pG 2 (show(["_law_place","_law_one","_law_other"]:List Str).Nodup by decide+kernel)) ny))))) (λc=>(cg (aa (vr 0) (aa (vr 2) (aa (vr 1) ah)))))) (@aH _ _ _ _ (dS 3 nd (dL g X hx (aa (vr 0) (aa (vr 1) (aa (bK (aa (vr 3) (aa (c8 (jV (vr 3) (i9 ao) mV) (jV (vr 3) mV (i9 ao))) (aa (vr 12) (aa (c8 (vr 3) (vr 3)) ah))))) ah))))))))))))));have S6:=(show PS (bA (aY P w) P w K mg base ["_law_script","_law_town","_law_hall_here","_law_thing","_law_books_here","_law_here","_law_k","_law_place","_law_other","_law_at","_law_step","_law_news","_law_about","_law_found","_law_bad"] "law" (aJ d7) f M B outer s H E) (cQ 6) (bB mg N _) from (dS 13 nd (dL O X hx (aa (vr 2) (aa (vr 3) ah)))));have S7:=(show PS (bA (aY P w) P w K mg base ["_law_script","_law_town","_law_hall_here","_law_thing","_law_books_here","_law_here","_law_k","_law_place","_law_other","_law_at","_law_step","_law_news","_law_about","_law_found","_law_bad"] "law" (aJ d7) f M B outer s H E) (cQ 7) (bB mg N _) from (cz (PW.pt (fy (j_ hu (vr 13) (dL FQ X hx (aa (vr 2) (aa (vr 3) ah)))) (fy (e_ (eE (gD xB U GQ boot_bool (vr 13)))) (f_ (PW.pt (we (eE (vr 13)) (wg (eE (dL W X hx (aa (vr 2) ah)))))))))) (@aH _ _ _ _ (aT fO)) cE));have S8:= @PF (bA (aY P w) P w K mg base ["_law_script","_law_town","_law_hall_here","_law_thing","_law_books_here","_law_here","_law_k","_law_place","_law_other","_law_at","_law_step","_law_news","_law_about","_law_found","_law_bad"] "law" (aJ d7) f M B outer s H E) N nd rfl (by first|exact Or.inl rfl|exact Or.inr rfl) (by first|exact .inl rfl|exact .inr rfl) (λ_ _ _=>dW eY eu vE fk (aa (vr 2) ah)) (λ_ _ _=>gW Ao AQ GS boot_tuple (aa (vr 3) ah));have S9:= @PJ (bA (aY P w) P w K mg base ["_law_script","_law_town","_law_hall_here","_law_thing","_law_books_here","_law_here","_law_k","_law_place","_law_other","_law_at","_law_step","_law_news","_law_about","_law_found","_law_bad"] "law" (aJ d7) f M B outer s H E) N (λ_=>vr 14);have vm:= @PD (bA (aY P w) P w K mg base ["_law_script","_law_town","_law_hall_here","_law_thing","_law_books_here","_law_here","_law_k","_law_place","_law_other","_law_at","_law_step","_law_news","_law_about","_law_found","_law_bad"] "law" (aJ d7) f M B outer s H E) N (λ_=>vr 14);have zx:=(show PS (bA (aY P w) P w K mg base ["_law_script","_law_town","_law_hall_here","_law_thing","_law_books_here","_law_here","_law_k","_law_place","_law_other","_law_at","_law_step","_law_news","_law_about","_law_found","_law_bad"] "law" (aJ d7) f M B outer s H E) (cQ 11) (bB mg N _) from (aT (rA hu (dL O X hx (aa (vr 2) (aa (dL g X hx (aa (vr 0) (aa (vr 1) (aa (vr 14) ah)))) ah))) fO)));obtain⟨RT,Cg⟩:∃st,st=cQ 8:=⟨_,rfl⟩;rw[<-Cg] at S8;obtain⟨RU,Ci⟩:∃st,st=cQ 9:=⟨_,rfl⟩;rw[<-Ci] at S9;obtain⟨RQ,Cf⟩:∃st,st=cQ 10:=⟨_,rfl⟩;rw[<-Cf] at vm;rw[PK,<-Cg,<-Ci,<-Cf];refine⟨_,(aE S0 (aE S1 (aE S2 (aE S3 (aE S4 (aE S5 (aE S6 (aE S7 (aE S8 (aE S9 (aE vm (aH zx)))))))))))),?_⟩;clear S0 S1 S2 S3 S4 S5 S6 S7 S8 S9 vm zx;obtain⟨ns,rfl,q⟩:=h;have hz:(1000:Nat)<=sizeLine:=by decide
 refine⟨cV _,rfl,ns,_,0,rfl,⟨[],aG,aI _⟩,by decide,λu A1 m1 m6 hF d1=>?_⟩;have hH:=K2 m1 m6 hF;have ok:=rJ m6 hF;generalize ht:A.length=t at*
 have hk:(u.map aF).length=u.length:=aR ..;have Z:∀T∈u.map aF,∀n∈af T,n∈N5:=ok.sub;dsimp only;refine yx (a:=lI 3 _) (λτ A'=>∃d3,τ=[some (.fl ns),some (.ref t),some (.tup (u.map enc)),some d3,none,none,none,none,none,none,none,none,none,none,none]/\Tw t 300 A'/\(d3=.ai\/∃q ss,d3=.ref q/\q≠t/\Th A' q u.length 9 ss)) ?_ ?_
 .rintro τ A2 ⟨d3,rfl,t2,hd⟩
  refine⟨rfl,u,rfl,m6,hF,λA3 qb g3 hB l3=>?_⟩;have LP:t<A2.length:=by
   obtain⟨_,z,_⟩:=t2;exact bU z
  have w3:W8 t qb (u.map aF) 300 A3:=⟨t2.gr g3,hB,by omega⟩;dsimp only;refine yx (a:=nB _ _ _) (λτ A'=>∃q ss x5 x6 x7 x8,τ=[some (.fl ns),some (.ref t),some (.tup (u.map enc)),some (.ref q),some (.ref qb),x5,x6,x7,x8,none,none,none,none,none,none]/\W8 t qb (u.map aF) 320 A'/\q≠t/\q≠qb/\Th A' q u.length 9 ss) ?_ λfin=>?_
  .rintro τ A4 ⟨q1,ss,x5,x6,x7,x8,rfl,w4,n1,n2,th⟩
   refine⟨rfl,ns,t,_,_,rfl,w4.tw,by decide,by decide,λi A5 i0 i1 b5 t5=>⟨by omega,by omega,?_⟩⟩;have w5:=w4.dr b5 t5;refine d_ (λrest τ A'=>∃(q:Nat) (ss:List aN) (n':Nat) (x5 x6 x7 x8 x9 Q6 Q7 Q8:Option D),rest.length<=2/\τ=[some (.fl ns),some (.ref t),some (.tup (u.map enc)),some (.ref q),some (.ref qb),x5,x6,x7,x8,x9,Q6,Q7,Q8,none,none]/\W8 t qb (u.map aF) n' A'/\n'+6*rest.length<=340/\q≠t/\q≠qb/\Th A' q u.length (jQ rest.length) ss) ?_ ?_ ?_ _ _ _ ⟨q1,ss,_,x5,x6,x7,x8,none,none,none,none,by simp[dP];omega,rfl,w5,by simp[dP];omega,n1,n2,⟨b5 _ _ n1 th.get,th.s5,dU th.len (GU _)⟩⟩
   .intro _ _ _ _
    trivial
   .rintro v rest τ A6 ⟨q6,ss,n6,y5,y6,y7,y8,y9,qh,FH,FI,xj,rfl,w6,Cb,ng,LU,kc⟩ Nx hN
    rw[jl] at xj Cb kc;have bs:=GV xj;have RJ:=kc.len;have Rl:jQ (rest.length+1)<=42:=by unfold jQ;split;decide;split<;>decide
    refine gI kc.get ⟨rfl,ns,t,_,_,rfl,w6.tw,by omega,by omega,λat_ A7 a0 a1 b7 t7=>?_⟩;obtain⟨a,rfl⟩:∃a:Nat,at_=(a:Int):=⟨at_.toNat,by omega⟩;rw[aR] at a1;have ha:a<=ss.length:=by omega
    have w7:=w6.dr b7 t7;have qc:=kc.dr b7 ng;refine⟨rfl,ns,t,_,_,rfl,w7.tw,by omega,by rw[aR];omega,λpl S p0 p1 b8 t8=>?_⟩;obtain⟨p,rfl⟩:∃p:Nat,pl=(p:Int):=⟨pl.toNat,by omega⟩;rw[aR] at p1;have hp:p<u.length:=by omega
    have w8:=w7.dr b8 t8;have J:=qc.dr b8 ng;obtain⟨jH,rB,o8⟩:=w8.bk;have sq:=o8.len;rw[hk] at sq;obtain⟨tp,htp⟩:∃tp,jH[p]?=some tp:=⟨jH[p]'(by omega),bO (by omega)⟩;obtain⟨Tp,Kc,Kd⟩:=o8.get htp;have B7:=dw Kc;have kp:=ok.tok Tp B7;have RG:(af Tp).length<=32:=by have:=kp.len;simp[af];omega
    refine fB rB (v:=.ref tp) (iG (by rw[bH,htp];rfl)) ?_;refine k8 Kd (j0 Tp) (by omega) ?_;have g9:Gr S (S++[C.lst ((af Tp).map D.str)]):=Gr.push;have w9:=w8.gr g9;have Q5:=w8.lt;refine⟨rfl,ns,t,_,_,_,rfl,by omega,aG,?_,w9.tw,by omega,λx uZ hx oJ yE=>?_⟩
    .intro z
     have z:af Tp=[]:=by simpa using z
     exact kp.ne (by simpa[af] using z)
    obtain⟨nm,hnm,rfl⟩:=br.mp hx;have kh:=w9.dr oJ yE;have QF:=(J.gr g9).dr oJ ng;have Q4:=kh.lt;have BL:Gr uZ (uZ++[C.lst [.str "a",.str "b",.str "c",.str "d",.str "e"]]):=Gr.push;have qf:=kh.gr BL;refine⟨show 5<=sizeLine by decide,rfl,ns,t,_,_,_,rfl,by omega,aG,by simp,qf.tw,by omega,λy qA hy oK yF=>⟨show 3<=sizeLine by decide,?_⟩⟩;obtain⟨o,ho,rfl⟩:=br.mp (show y∈N5.map D.str from hy);have qg:=qf.dr oK yF;have nI:=(QF.gr BL).dr oK ng;have h5:fN u.length (p,nm,o):=⟨hp,Z Tp B7 _ hnm,ho⟩;have RW:=qg.lt;have RI:=bU nI.get;have hal:a<=(ss.map av).length:=by rw[aR];exact ha
    refine⟨show 1<=sizeLine by decide,cV _,j9 (getElem?_push (getElem?_push nI.get)) ?_⟩;rw[AG hal];refine Oq aG (by decide) (by decide) ?_ (j9 (getElem?_push (getElem?_push (getElem?_push (getElem?_push nI.get)))) ?_)
    .have:(((ss.map av).drop a).take 1).length<=1:=by rw[jM];omega
     show _*2<=_;omega
    rw[AG hal];refine⟨show 4<=sizeLine by decide,?_⟩;have news:=Mg (q:=q6) (a:=a) nI.s5 h5 _ _ _ _ _ rfl rfl rfl rfl rfl (A:=qA);have JW:∀c1 c2 c3 c4 c5 c6 c7:Ar,Gr qA (qA++c1++c2++c3++c4++c5++c6++c7):=λ_ _ _ _ _ _ _=>(((((Gr.push.trans Gr.push).trans Gr.push).trans Gr.push).trans Gr.push).trans Gr.push).trans Gr.push;have wN:=JW [C.lst [av (p,nm,o)]] [C.lst []] [C.lst (((ss.map av).drop a).take 1)] [C.lst (replicate 2 (((ss.map av).drop a).take 1)).flatten] [C.lst (((ss.map av).drop a).take 1)];refine j9 (getElem?_push (getElem?_push (getElem?_push (getElem?_push (getElem?_push (getElem?_push nI.get)))))) ?_;rw[Hr hal];refine⟨rfl,ns,t,_,_,_,rfl,by simp<;>omega,getElem?_push aG,by simp,(qg.gr (wN _ _)).tw,by omega,λz C0 hz bC tC=>?_⟩;have wC:=(qg.gr (wN _ _)).dr bC tC;have yO:=(nI.gr (wN _ _)).dr bC ng;obtain⟨r,ls,rfl,lr,nw⟩:=news z hz;have Ks:=bC _ _ (show r≠t by omega) (getElem?_push (getElem?_push nw.get));have tk:=bC _ _ (by simp<;>omega) aG;have nl:=nw.len;have l2:ls.length<=2:=by omega
    refine iJ tk Ks (by simp<;>omega) ?_;refine j9 (getElem?_push yO.get) ?_;rw[Hq hal];refine iJ (getElem?_push aG) aG (by simp<;>omega) ?_;have e2:(ss.map av).take a++ls.map av++(ss.map av).drop (a+1)=(ss.take a++ls++ss.drop (a+1)).map av:=by
     rw[cX,cX,map_take,map_drop]
    rw[e2];have CB:(ss.take a++ls++ss.drop (a+1)).length<=ss.length+1:=by
     simp only[dI,jM,mw];omega
    have D8:∀s∈ss.take a++ls++ss.drop (a+1),fN u.length s:=qQ (qQ (uh yO.s5 λs h=>lO h) nw.s5) (uh yO.s5 λs h=>uC h);generalize hs2:ss.take a++ls++ss.drop (a+1)=G at CB D8 ⊢;generalize hc1:C0++[C.lst ((ss.map av).take a++ls.map av)]++[C.lst ((ss.map av).drop (a+1))]=C2;have JP:Gr C0 C2:=by rw[<-hc1];exact Gr.push.trans Gr.push
    have FF:=wC.gr JP;have RX:=FF.lt;refine⟨rfl,Ot aG ?_⟩;refine eO aG ?_;refine i7 (f:=λd=>match d with|.tup [a,b,c]=>.tup [a,c,b]|d=>d) aG _ _ (λd hd=>?_) (by simp<;>omega) ?_
    .rw[mem_reverse] at hd
     obtain⟨st,_,rfl⟩:=br.mp hd;exact⟨[.int ((st.1:Nat):Int),.str st.2.1,.str st.2.2],rfl,λQ hQ=>⟨show 3<=sizeLine by omega,hQ⟩⟩
    rw[gx,GY];have hq2:(C2++[C.lst (G.map av)]++[C.lst (G.map av).reverse]++[C.lst ((bwd G).map av)])[C2.length]?=some (.lst (G.map av)):=getElem?_push (getElem?_push aG);have xh:(C2++[C.lst (G.map av)]++[C.lst (G.map av).reverse]++[C.lst ((bwd G).map av)])[(C2++[C.lst (G.map av)]++[C.lst (G.map av).reverse]).length]?=some (.lst ((bwd G).map av)):=aG;have wO:Gr C2 (C2++[C.lst (G.map av)]++[C.lst (G.map av).reverse]++[C.lst ((bwd G).map av)]):=(Gr.push.trans Gr.push).trans Gr.push;have LL:C2.length<=(C2++[C.lst (G.map av)]++[C.lst (G.map av).reverse]).length:=by simp<;>omega
    generalize Rr:(C2++[C.lst (G.map av)]++[C.lst (G.map av).reverse]).length=qa at xh LL ⊢;generalize hc5:C2++[C.lst (G.map av)]++[C.lst (G.map av).reverse]++[C.lst ((bwd G).map av)]=C5 at hq2 xh wO ⊢;have QH:Th C5 C2.length u.length (ss.length+1) G:=⟨hq2,D8,CB⟩;have turns:=QW QH qa xh _ _ _ _ rfl rfl rfl rfl;refine j9 hq2 ?_;rw[vQ];refine j9 (getElem?_push hq2) ?_;rw[vP];refine iJ (getElem?_push aG) aG (by simp<;>omega) ?_;refine iJ (getElem?_push (getElem?_push (getElem?_push hq2))) (getElem?_push (getElem?_push (getElem?_push hq2))) (by simp<;>omega) ?_;have FG:=FF.gr wO;have BR:∀c1 c2 c3 c4 c5:Ar,Gr C5 (C5++c1++c2++c3++c4++c5):=λ_ _ _ _ _=>(((Gr.push.trans Gr.push).trans Gr.push).trans Gr.push).trans Gr.push;have l5:=wO.len;refine⟨show 4<=sizeLine by decide,rfl,ns,t,_,_,_,rfl,by simp<;>omega,aG,by simp,(FG.gr (BR _ _ _ _ _)).tw,by omega,λz E0 hz bE tE=>?_⟩;obtain⟨r3,LM,rfl,CK,QG⟩:=turns z hz;have wE:=(FG.gr (BR _ _ _ _ _)).dr bE tE;have n3:r3≠t:=by rcases CK with rfl|rfl|h<;>omega
    have n4:r3≠qb:=by rcases CK with rfl|rfl|h<;>omega
    have yP:=(QG.gr (Gr.push)).dr bE n3;exact hN _ _ ⟨r3,LM,_,y5,some v,some (.int ((p:Nat):Int)),y8,some (.int ((a:Nat):Int)),_,_,some (.ref qa),by omega,rfl,wE,by omega,n3,n4,yP.get,yP.s5,by have:=yP.len;omega⟩
   .rintro τ A6 ⟨q6,ss,n6,y5,y6,y7,y8,y9,qh,FH,FI,xj,rfl,w6,Cb,ng,LU,kc⟩
    have Rx:ss.length<=42:=kc.len;refine⟨rfl,u,_,rfl,hH,.inl ⟨q6,ss,rfl,kc.get,by omega,λA7 g7=>?_⟩⟩;have w7:=w6.gr g7;have qc:=kc.gr g7;dsimp only;refine yx (a:=nB _ _ _) (λτ A'=>∃FJ,τ=[some (.fl ns),some (.ref t),some (.tup (u.map enc)),some (.ref q6),some (.ref qb),y5,y6,y7,y8,y9,qh,FH,FI,FJ,none]/\W8 t qb (u.map aF) n6 A'/\Th A' q6 u.length (jQ 0) ss) ?_ λfin2=>?_
    .rintro τ S ⟨FJ,rfl,w8,J⟩
     have Q5:=w8.lt;have LK:=bU J.get;unfold xP;iterate 9 refine⟨uP rfl,?_⟩
     refine Fq (getElem?_push (getElem?_push (getElem?_push (getElem?_push (getElem?_push J.get))))) ⟨uP rfl,?_⟩;have Mj:dR (u.map aF) ((u.map enc).length,"a","a")=false:=by
      unfold dR gc;rw[mj (by simp)];rfl
     have Mk:dR (u.map aF) (0,"zzz","zzz")=false:=by
      unfold dR gc;cases e:(u.map aF)[0]? with
      |none=>rfl
      |some T=>
       have:¬("zzz":Str)∈af T:=λz=>absurd (Z T (dw e) _ z) (by decide+kernel);show(decide (("zzz":Str)∈af T)&&_)=false;rw[eL this];rfl
     have vA:∀x∈[D.ai,D.tup [],D.ref S.length,D.ref (S++[C.lst []]).length,D.ref (S++[C.lst []]++[C.lst [.ai]]).length,D.ref (S++[C.lst []]++[C.lst [.ai]]++[C.lst [.tup [.int 0,.str "a"]]]).length,D.ref (S++[C.lst []]++[C.lst [.ai]]++[C.lst [.tup [.int 0,.str "a"]]]++[C.lst [.tup [.int (((u.map enc).length:Nat):Int),.str "a",.str "a"]]]).length,D.tup (ss.map av)],iB (S++[C.lst []]++[C.lst [.ai]]++[C.lst [.tup [.int 0,.str "a"]]]++[C.lst [.tup [.int (((u.map enc).length:Nat):Int),.str "a",.str "a"]]]++[C.lst [.tup [.bl true,.str "a",.str "a"]]]) (u.map aF) t (S++[C.lst []]++[C.lst [.ai]]++[C.lst [.tup [.int 0,.str "a"]]]++[C.lst [.tup [.int (((u.map enc).length:Nat):Int),.str "a",.str "a"]]]++[C.lst [.tup [.bl true,.str "a",.str "a"]]]).length x:=by
      intro x hx;simp only[cu,gK,gM] at hx;rcases hx with rfl|rfl|rfl|rfl|rfl|rfl|rfl|rfl
      .exact .inl .ai
      .exact .inl (.tup _)
      .exact .inr (.inr ⟨_,[],rfl,by omega,by simp,getElem?_push (getElem?_push (getElem?_push (getElem?_push aG))),by simp,Ow _⟩)
      .exact .inr (.inl ⟨_,_,rfl,by simp<;>omega,by simp,getElem?_push (getElem?_push (getElem?_push aG)),.ai⟩)
      .exact .inr (.inl ⟨_,_,rfl,by simp<;>omega,by simp,getElem?_push (getElem?_push aG),.two _ _⟩)
      .exact .inr (.inr ⟨_,[((u.map enc).length,"a","a")],rfl,by simp<;>omega,by simp,getElem?_push aG,by simp,D5 Mj⟩)
      .exact .inr (.inl ⟨_,_,rfl,by simp<;>omega,by simp,aG,.tr _ _⟩)
      .exact .inl (.tup _)
     generalize Kz:[D.ai,D.tup [],D.ref S.length,D.ref (S++[C.lst []]).length,D.ref (S++[C.lst []]++[C.lst [.ai]]).length,D.ref (S++[C.lst []]++[C.lst [.ai]]++[C.lst [.tup [.int 0,.str "a"]]]).length,D.ref (S++[C.lst []]++[C.lst [.ai]]++[C.lst [.tup [.int 0,.str "a"]]]++[C.lst [.tup [.int (((u.map enc).length:Nat):Int),.str "a",.str "a"]]]).length,D.tup (ss.map av)]=k at vA ⊢;have CQ:k.length=8:=by rw[<-Kz];rfl
     have gB:Gr S (S++[C.lst []]++[C.lst [.ai]]++[C.lst [.tup [.int 0,.str "a"]]]++[C.lst [.tup [.int (((u.map enc).length:Nat):Int),.str "a",.str "a"]]]++[C.lst [.tup [.bl true,.str "a",.str "a"]]]):=(((Gr.push.trans Gr.push).trans Gr.push).trans Gr.push).trans Gr.push;have lB:=gB.len;generalize hB:(S++[C.lst []]++[C.lst [.ai]]++[C.lst [.tup [.int 0,.str "a"]]]++[C.lst [.tup [.int (((u.map enc).length:Nat):Int),.str "a",.str "a"]]]++[C.lst [.tup [.bl true,.str "a",.str "a"]]])=B at vA gB lB ⊢;unfold xQ;refine⟨gZ aG,?_⟩;iterate 10 refine⟨uP rfl,?_⟩
     refine wB (getElem?_push (getElem?_push (getElem?_push (getElem?_push (getElem?_push (getElem?_push (getElem?_push aG))))))) aG (by rw[CQ];show 8+5<=_;omega) ?_;have vB:∀x∈[D.ref (B++[C.lst k]).length,D.ref (B++[C.lst k]++[C.lst [.tup [.int 0,.ai,.ai]]]++[C.lst [.str "a",.str "a",.int 0]]).length,D.str "ring",D.ref (B++[C.lst k]++[C.lst [.tup [.int 0,.ai,.ai]]]++[C.lst [.str "a",.str "a",.int 0]]++[C.lst [.ref (B++[C.lst k]++[C.lst [.tup [.int 0,.ai,.ai]]]).length]]).length,D.ref (B++[C.lst k]++[C.lst [.tup [.int 0,.ai,.ai]]]++[C.lst [.str "a",.str "a",.int 0]]++[C.lst [.ref (B++[C.lst k]++[C.lst [.tup [.int 0,.ai,.ai]]]).length]]++[C.lst [.tup [.int 0,.str "zzz",.str "zzz"]]]++[C.lst [.str "a"]]).length],iB (B++[C.lst k]++[C.lst [.tup [.int 0,.ai,.ai]]]++[C.lst [.str "a",.str "a",.int 0]]++[C.lst [.ref (B++[C.lst k]++[C.lst [.tup [.int 0,.ai,.ai]]]).length]]++[C.lst [.tup [.int 0,.str "zzz",.str "zzz"]]]++[C.lst [.str "a"]]++[C.lst [.tup [.int 0,.ref (B++[C.lst k]++[C.lst [.tup [.int 0,.ai,.ai]]]++[C.lst [.str "a",.str "a",.int 0]]++[C.lst [.ref (B++[C.lst k]++[C.lst [.tup [.int 0,.ai,.ai]]]).length]]++[C.lst [.tup [.int 0,.str "zzz",.str "zzz"]]]).length,.str "a"]]]) (u.map aF) t B.length x:=by
      intro x hx;simp only[cu,gK,gM] at hx;rcases hx with rfl|rfl|rfl|rfl|rfl
      .exact .inr (.inl ⟨_,_,rfl,by simp<;>omega,by simp,getElem?_push (getElem?_push (getElem?_push (getElem?_push (getElem?_push aG)))),.nn⟩)
      .exact .inr (.inl ⟨_,_,rfl,by simp<;>omega,by simp,getElem?_push (getElem?_push (getElem?_push aG)),.ls (getElem?_push (getElem?_push (getElem?_push (getElem?_push aG))))⟩)
      .exact .inl (.str _)
      .exact .inr (.inr ⟨_,[(0,"zzz","zzz")],rfl,by simp<;>omega,by simp,getElem?_push (getElem?_push aG),by simp,D5 Mk⟩)
      .exact .inr (.inl ⟨_,_,rfl,by simp<;>omega,by simp,aG,.l1 _ (getElem?_push aG)⟩)
     generalize Ky:[D.ref (B++[C.lst k]).length,D.ref (B++[C.lst k]++[C.lst [.tup [.int 0,.ai,.ai]]]++[C.lst [.str "a",.str "a",.int 0]]).length,D.str "ring",D.ref (B++[C.lst k]++[C.lst [.tup [.int 0,.ai,.ai]]]++[C.lst [.str "a",.str "a",.int 0]]++[C.lst [.ref (B++[C.lst k]++[C.lst [.tup [.int 0,.ai,.ai]]]).length]]).length,D.ref (B++[C.lst k]++[C.lst [.tup [.int 0,.ai,.ai]]]++[C.lst [.str "a",.str "a",.int 0]]++[C.lst [.ref (B++[C.lst k]++[C.lst [.tup [.int 0,.ai,.ai]]]).length]]++[C.lst [.tup [.int 0,.str "zzz",.str "zzz"]]]++[C.lst [.str "a"]]).length]=I at vB ⊢;have LR:I.length=5:=by rw[<-Ky];rfl
     have gE:Gr B (B++[C.lst k]++[C.lst [.tup [.int 0,.ai,.ai]]]++[C.lst [.str "a",.str "a",.int 0]]++[C.lst [.ref (B++[C.lst k]++[C.lst [.tup [.int 0,.ai,.ai]]]).length]]++[C.lst [.tup [.int 0,.str "zzz",.str "zzz"]]]++[C.lst [.str "a"]]++[C.lst [.tup [.int 0,.ref (B++[C.lst k]++[C.lst [.tup [.int 0,.ai,.ai]]]++[C.lst [.str "a",.str "a",.int 0]]++[C.lst [.ref (B++[C.lst k]++[C.lst [.tup [.int 0,.ai,.ai]]]).length]]++[C.lst [.tup [.int 0,.str "zzz",.str "zzz"]]]).length,.str "a"]]]):=(((((Gr.push.trans Gr.push).trans Gr.push).trans Gr.push).trans Gr.push).trans Gr.push).trans Gr.push;have rN:(B++[C.lst k]++[C.lst [.tup [.int 0,.ai,.ai]]]++[C.lst [.str "a",.str "a",.int 0]]++[C.lst [.ref (B++[C.lst k]++[C.lst [.tup [.int 0,.ai,.ai]]]).length]]++[C.lst [.tup [.int 0,.str "zzz",.str "zzz"]]]++[C.lst [.str "a"]]++[C.lst [.tup [.int 0,.ref (B++[C.lst k]++[C.lst [.tup [.int 0,.ai,.ai]]]++[C.lst [.str "a",.str "a",.int 0]]++[C.lst [.ref (B++[C.lst k]++[C.lst [.tup [.int 0,.ai,.ai]]]).length]]++[C.lst [.tup [.int 0,.str "zzz",.str "zzz"]]]).length,.str "a"]]])[B.length]?=some (.lst k):=getElem?_push (getElem?_push (getElem?_push (getElem?_push (getElem?_push (getElem?_push aG)))));generalize hE:B++[C.lst k]++[C.lst [.tup [.int 0,.ai,.ai]]]++[C.lst [.str "a",.str "a",.int 0]]++[C.lst [.ref (B++[C.lst k]++[C.lst [.tup [.int 0,.ai,.ai]]]).length]]++[C.lst [.tup [.int 0,.str "zzz",.str "zzz"]]]++[C.lst [.str "a"]]++[C.lst [.tup [.int 0,.ref (B++[C.lst k]++[C.lst [.tup [.int 0,.ai,.ai]]]++[C.lst [.str "a",.str "a",.int 0]]++[C.lst [.ref (B++[C.lst k]++[C.lst [.tup [.int 0,.ai,.ai]]]).length]]++[C.lst [.tup [.int 0,.str "zzz",.str "zzz"]]]).length,.str "a"]]]=E9 at vB gE rN ⊢;have Ab:∀x∈k++I,iB ((E9++[C.lst I]).set B.length (.lst (k++I))) (u.map aF) t B.length x:=λx hx=>by
      have hs:∃ys,((E9++[C.lst I]).set B.length (.lst (k++I)))[B.length]?=some (.lst ys):=⟨_,o5 (getElem?_push rN)⟩;rcases ck.mp hx with hx|hx
      .exact((vA x hx).gr (gE.trans Gr.push)).but (.inr rfl) bS.set hs
      .exact((vB x hx).gr Gr.push).but (.inr rfl) bS.set hs
     have wF:W8 t qb (u.map aF) n6 ((E9++[C.lst I]).set B.length (.lst (k++I))):=(w8.gr ((gB.trans gE).trans Gr.push)).put (getElem?_push rN) (by omega) (by omega);have kW:((E9++[C.lst I]).set B.length (.lst (k++I)))[B.length]?=some (.lst (k++I)):=o5 (getElem?_push rN);generalize (E9++[C.lst I]).set B.length (.lst (k++I))=F at Ab wF kW ⊢;unfold xO;refine⟨gZ kW,?_⟩;iterate 3 refine⟨uP rfl,?_⟩
     refine kH (getElem?_push (getElem?_push kW)) (by rw[dI,CQ,LR];omega) ?_;have lF:=bU kW;have gF:Gr F (F++[C.lst [.str "a"]]++[C.lst [.tup [.int 0,.str "a",.ref F.length]]]):=Gr.push.trans Gr.push;have GK:∀x∈k++I++[D.ref (F++[C.lst [.str "a"]]).length],iB ((F++[C.lst [.str "a"]]++[C.lst [.tup [.int 0,.str "a",.ref F.length]]]).set B.length (.lst (k++I++[D.ref (F++[C.lst [.str "a"]]).length]))) (u.map aF) t B.length x:=λx hx=>by
      have hs:∃ys,((F++[C.lst [.str "a"]]++[C.lst [.tup [.int 0,.str "a",.ref F.length]]]).set B.length (.lst (k++I++[D.ref (F++[C.lst [.str "a"]]).length])))[B.length]?=some (.lst ys):=⟨_,o5 (gF.get kW)⟩;rcases ck.mp hx with hx|hx
      .exact((Ab x hx).gr gF).but (.inr rfl) bS.set hs
      .have RY:=wF.lt
       rw[b_.mp hx];exact iB.but (.inr (.inl ⟨_,_,rfl,by simp<;>omega,by simp<;>omega,aG,.l2 _ (getElem?_push aG)⟩)) (.inr rfl) bS.set hs
     have wG:=(wF.gr gF).put (ys:=k++I++[D.ref (F++[C.lst [.str "a"]]).length]) (gF.get kW) (by omega) (by omega);refine⟨rfl,ns,t,B.length,_,n6,rfl,by omega,o5 (gF.get kW),by simp,wG.tw,by omega,λx F0 hx bF tF=>?_⟩;have bad:=(GK x hx).but (.inl rfl) bF (by obtain⟨ys,e,_⟩:=tF;exact⟨ys,e⟩);refine⟨rfl,u,x,rfl,hH,?_⟩;rcases bad with h|⟨q',y,e,_,_,h,o⟩|⟨q',ss',e,_,_,h,l,z⟩
     .exact .inr ⟨.inl h,λA' _=>q _⟩
     .exact .inr ⟨.inr ⟨q',y,e,h,o⟩,λA' _=>q _⟩
     .refine .inl ⟨q',ss',e,h,l,λA' _=>?_⟩
      rw[z];exact q _
    .refine⟨rfl,u,q6,ss,rfl,m6,hF,qc.get,by omega,qc.s5,λS g8=>?_⟩
     refine cN (λc=>absurd rfl c) (λ_=>?_);have Ku:=Ox (ss:=ss) ok.tok;have w8:=w7.gr g8;have J:=qc.gr g8;generalize fS (u.map aF) ss=rb at*
     cases rb with
     |false=>exact fin2 _ _ ⟨_,rfl,w8,J⟩
     |true=>
      refine⟨rfl,u,rfl,m6,hF,λb A9 hb g9=>?_⟩;cases b with
      |true=>exact absurd (hb.mp rfl) (Ku rfl)
      |false=>exact fin2 _ _ ⟨_,rfl,w8.gr g9,J.gr g9⟩
  .refine KU (λτ A'=>∃d3 n,τ=[some (.fl ns),some (.ref t),some (.tup (u.map enc)),some d3,some (.ref qb),none,none,none,none,none,none,none,none,none,none]/\W8 t qb (u.map aF) n A'/\n<=301) ?_ λwalk=>?_
   .rintro τ A4 ⟨d3,n,rfl,w4,hn⟩
    obtain⟨l4,Rw⟩:=w4.lt;obtain⟨ts,eb,hD⟩:=w4.bk;have pI:=hD.len;rw[hk] at pI;obtain⟨t0,ht0⟩:∃t0,ts[0]?=some t0:=⟨ts[0]'(by omega),bO (by omega)⟩;obtain⟨T0,rH,hd0⟩:=hD.get ht0;have B5:=dw rH;have k0:=ok.tok T0 B5;have RC:(af T0).length<=32:=by have:=k0.len;simp[af];omega
    refine⟨cV _,?_⟩;refine fB (getElem?_push eb) (v:=.ref t0) (iG (j:=0) (by rw[bH,ht0];rfl)) ?_;refine k8 (getElem?_push hd0) (j0 T0) (by omega) ?_;have w5:=w4.gr (Gr.trans (Gr.push (T:=[C.lst []])) (Gr.push (T:=[C.lst ((af T0).map D.str)])));refine⟨rfl,ns,t,_,_,n,rfl,by simp;omega,aG,?_,w5.tw,by omega,λx A6 hx b6 t6=>?_⟩
    .intro z
     have z:af T0=[]:=by simpa using z
     exact k0.ne (by simpa[af] using z)
    obtain⟨Mh,Kn,rfl⟩:=br.mp hx;have w6:=w5.dr b6 t6;have q6:A6[A4.length]?=some (.lst []):=b6 _ _ (by omega) (getElem?_push aG);refine⟨rfl,ns,t,_,_,rfl,w6.tw,by omega,by decide,λi A7 i0 i1 b7 t7=>⟨by omega,by omega,?_⟩⟩;have w7:=w6.dr b7 t7;have q7:=b7 _ _ (by omega) q6;refine d_ (λrest τ A'=>∃(ss:List aN) (nm:Str) (n':Nat) (x6 x7 x8:Option D),rest.length+ss.length<=5/\τ=[some (.fl ns),some (.ref t),some (.tup (u.map enc)),some (.ref A4.length),some (.ref qb),some (.str nm),x6,x7,x8,none,none,none,none,none,none]/\(∃T∈u.map aF,nm∈af T)/\W8 t qb (u.map aF) n' A'/\n'+2*rest.length<=320/\Th A' A4.length u.length 9 ss) ?_ ?_ ?_ _ _ _ ⟨[],Mh,_,none,none,none,by simp[dP];omega,rfl,⟨T0,B5,Kn⟩,w7,by simp[dP];omega,⟨q7,(λ_ h=>by cases h),by simp⟩⟩
    .intro _ _ _ _
     trivial
    .rintro v rest τ S ⟨ss,nm,n8,x6,x7,x8,Ca,rfl,⟨T1,hT1,Ko⟩,w8,o_,J⟩ Nx hN
     rw[jl] at Ca o_;obtain⟨jH,rB,o8⟩:=w8.bk;have sq:=o8.len;rw[hk] at sq;have LK:=bU J.get;refine rT rB ?_;refine vL rB (λd=>match d with|.tup [.int i,_]=>gc (u.map aF) i.toNat nm|_=>false) (λd=>match d with|.tup [y,_]=>y|d=>d) _ _ (λd hd=>?_) (by rw[kQ,aR,sq];simp;omega) ?_
     .unfold fG at hd
      obtain⟨⟨d',j⟩,Y,rfl⟩:=br.mp hd;have Y:=nK.mp Y;have Y:(jH.map D.ref)[j]?=some d':=Y;rw[bH] at Y;cases e8:jH[j]? with
      |none=>rw[e8] at Y;cases Y
      |some tj=>
       rw[e8] at Y;cases Y;obtain⟨Tj,m5,xg⟩:=o8.get e8;refine⟨[.int ((j:Nat):Int),.ref tj],rfl,λQ hQ=>jy xg rfl ?_,λQ hQ=>hQ⟩;rw[ay b9,kT];have hQ:Q (gc (u.map aF) ((j:Nat):Int).toNat nm) S:=hQ;rw[nM] at hQ;unfold gc at hQ;rw[m5] at hQ;exact hQ
     rw[gx];generalize hL:((fG (jH.map D.ref)).filter λd=>match d with|.tup [.int i,_]=>gc (u.map aF) i.toNat nm|_=>false).map (λd=>match d with|.tup [y,_]=>y|d=>d)=L;have w9:=w8.gr (Gr.push (T:=[C.lst L]));have LY:∀x∈L,∃j:Nat,x=.int (j:Int)/\gc (u.map aF) j nm=true:=λx hx=>by
      rw[<-hL] at hx;obtain⟨d,hd,rfl⟩:=br.mp hx;obtain⟨hd,hp⟩:=mem_filter.mp hd;unfold fG at hd;obtain⟨⟨d',j⟩,Y,rfl⟩:=br.mp hd;exact⟨j,rfl,by simpa using hp⟩
     have Me:L≠[]:=by
      obtain⟨j,Y,e8⟩:=qx hT1;have ID:(u.map aF)[j]?=some T1:=by rw[bO Y,e8]
      rw[hk] at Y;have hlt:j<(jH.map D.ref).length:=by rw[aR];omega
      have hm:=wm (ds:=jH.map D.ref) (i:=j) (x:=(jH.map D.ref)[j]) (bO hlt);rw[<-hL];refine List.ne_nil_of_mem (gw (mem_filter.mpr ⟨dw hm,?_⟩));show gc (u.map aF) ((j:Nat):Int).toNat nm=true;rw[nM];unfold gc;rw[ID];exact cW Ko
     have wl:=w8.lt;refine⟨rfl,ns,t,_,_,n8,rfl,by omega,aG,Me,w9.tw,by omega,λx uZ hx oJ yE=>?_⟩;obtain⟨j,rfl,Y⟩:=LY x hx;have kh:=w9.dr oJ yE;have Oe:=oJ _ _ (show A4.length≠t by omega) (getElem?_push (T:=[C.lst L]) J.get);unfold gc at Y;cases oY:(u.map aF)[j]? with
     |none=>rw[oY] at Y;cases Y
     |some Tj=>
     rw[oY] at Y;have Y:nm∈af Tj:=fE Y;have m5:=dw oY;have kj:=ok.tok Tj m5;have RD:(af Tj).length<=32:=by have:=kj.len;simp[af];omega
     have LD:j<u.length:=by have:=(bR.mp oY).1;omega
     obtain⟨Fp,IE,B3⟩:=kh.bk;have lt10:=B3.len;rw[hk] at lt10;obtain⟨tj,htj⟩:∃tj,Fp[j]?=some tj:=⟨Fp[j]'(by omega),bO (by omega)⟩;obtain⟨Rk,B6,xg⟩:=B3.get htj;rw[oY] at B6;cases B6;refine fB IE (v:=.ref tj) (iG (by rw[bH,htj];rfl)) ?_;refine k8 xg (j0 Tj) (by omega) ?_;have qf:=kh.gr (Gr.push (T:=[C.lst ((af Tj).map D.str)]));have Q4:=kh.lt;refine⟨rfl,ns,t,_,_,_,rfl,by omega,aG,?_,qf.tw,by omega,λx qA hx oK yF=>?_⟩
     .intro z
      have z:af Tj=[]:=by simpa using z
      exact kj.ne (by simpa[af] using z)
     obtain⟨o,ho,rfl⟩:=br.mp hx;have qg:=qf.dr oK yF;have tW:=oK _ _ (show A4.length≠t by omega) (getElem?_push (T:=[C.lst ((af Tj).map D.str)]) Oe);refine⟨gZ tW,show 3<=sizeLine by decide,kH tW (by rw[aR];have:=J.len;omega) ?_⟩;refine hN _ _ ⟨ss++[(j,nm,o)],o,_,some v,some (.int ((j:Nat):Int)),some (.str o),by simp;omega,rfl,⟨Tj,m5,ho⟩,qg.put tW (by omega) (by omega),by omega,?_,λs hs=>?_,by simp;omega⟩
     .rw[fu (bU tW),cX]
      rfl
     .rcases ck.mp hs with hs|hs
      .exact J.s5 s hs
      .rw[b_.mp hs]
       exact⟨LD,Z Tj m5 _ Y,Z Tj m5 _ ho⟩
    .rintro τ S ⟨ss,nm,n8,x6,x7,x8,Ca,rfl,_,w8,o_,J⟩
     exact fin _ _ ⟨A4.length,ss,some (.str nm),x6,x7,x8,rfl,w8.dr bS.refl (w8.tw.mono (by omega)),by omega,by omega,J⟩
   .rcases hd with rfl|⟨q1,ss,rfl,n1,th⟩
    .exact walk _ _ ⟨_,_,rfl,w3,by decide⟩
    .have lq:=bU th.get
     refine⟨rfl,ns,t,_,_,rfl,w3.tw,by decide,by decide,λi A4 i0 i1 b4 t4=>?_⟩;have w4:=w3.dr b4 t4;refine cD (λc=>walk _ _ ⟨_,_,rfl,w4,by decide⟩) (λc=>fin _ _ ⟨q1,ss,none,none,none,none,rfl,w4.dr bS.refl (w4.tw.mono (by decide)),n1,by omega,⟨b4 _ _ n1 (g3.get th.get),th.s5,th.len⟩⟩)
 .intro go
  refine⟨rfl,_,N5,rfl,⟨u,hH⟩,λms' J6=>?_,λc=>absurd ⟨u,hH⟩ c⟩;have em:=B8 J6;subst em;have t0:Tw t 300 A1:=by have:=d1.tw;simpa using this
  refine⟨ok,λhn A2 g2=>go _ _ ⟨_,rfl,t0.gr g2,.inl rfl⟩,λss hs A2 q2 g2 h2 l2=>go _ _ ⟨_,rfl,t0.gr g2,.inr ⟨q2,ss,rfl,?_,h2,?_,?_⟩⟩⟩
  .obtain⟨_,z,_⟩:=t0
   have:=bU z;omega
  .intro s hs'
   unfold jD at hs;obtain⟨st,hst,rfl⟩:=br.mp (iO hs);obtain⟨T0,z1,z2,z3⟩:=(yu ok hst).1 s hs';have hT:=dw z1;have:=(bR.mp z1).1;exact⟨by omega,Z T0 hT _ z2,Z T0 hT _ z3⟩
  .unfold jD at hs
   obtain⟨st,hst,rfl⟩:=br.mp (iO hs);exact(yu ok hst).2
end My
namespace L2
theorem tD{K:Frag}{h:Heap}{mg:aq}{x:Str}{st:Stmt}{ps:List Str}{f:Addr}{g:Value}{i an:Option Addr}{e:Array (Option Value)}{kV doc pm d ct:Value}(X:K.In h)(G:h.Ns mainGlobals mg)
  (a:nsIn K mainGlobals x=some (some (.ref f)):=by k_is)(l:K.lookup f=some ⟨g,i,.func (fnOf x x (jW st) (fP st) (aJ st) .none kV doc pm an d ct),e⟩:=by k_is)(c:codeIn K d x=true:=by k_is)(k:keepIn K (.ref f)=true:=by k_is)
  (j:∀(kV doc pm:Value) (an:Option Addr) (d ct:Value) (b:List Value),b.length=ps.length->bindArgs (fnOf x x (jW st) (fP st) (aJ st) .none kV doc pm an d ct) ⟨b,[]⟩=pure (ps.zip b):=by first|(exact λ_ _ _ _ _ _ b hl=>match b,hl with|[_],_=>rfl)|(exact λ_ _ _ _ _ _ b hl=>match b,hl with|[_,_],_=>rfl)|(exact λ_ _ _ _ _ _ b hl=>match b,hl with|[_,_,_],_=>rfl)|(exact λ_ _ _ _ _ _ b hl=>match b,hl with|[_,_,_,_],_=>rfl)|(exact λ_ _ _ _ _ _ b hl=>match b,hl with|[_,_,_,_,_],_=>rfl)|(exact λ_ _ _ _ _ _ b hl=>match b,hl with|[],_=>rfl)):TopD K mg x st ps:=
 ⟨f,_,wL l c k,(wL l c k).binds j,mg_of X G a⟩
theorem bN{K:Frag}{h:Heap}{mg:aq}{x:Str}(X:K.In h)(G:h.Ns mainGlobals mg)(a:nsIn K mainGlobals x=some none:=by k_is):mg x=none:=PySem.W.mg_none_of X G a
theorem eX{K:Frag}{h:Heap}{mg:aq}{x:Str}{v:Value}(X:K.In h)(G:h.Ns mainGlobals mg)(a:nsIn K mainGlobals x=some (some v):=by k_is):mg x=some v:=mg_of X G a
end L2
namespace My
open L2 DP MA
theorem walk{l:PySem.W.OpenLaw}{q:Program}{loose:List Str}{i:(aq)->Heap->Prop}{c:World->Heap->Prop}{d:DefRec}{K:Params->Frag}(j:l.most=some 63)(b:d.params.defaults=[])(m:∀p,(K p).all (λp=>lC p.2)=true)
  (o:∀(w:World) (h:Heap),c w h->(K w.params).In h)
  (F:∀(w:World) (mg:aq) (g:Addr) (h:Heap),(K w.params).In h->h.Ns mainGlobals mg->mg d.name=some (.ref g)->
   ∃fd:FuncData,(∀(s:Shared) (u:Value),BindsTo s fd ⟨[u],[]⟩ [("_law_script",u)])/\∀base:Heap,(K w.params).In base->base.Ns mainGlobals mg->fW l.prog w (K w.params) mg base (aY l.prog w) 26 g fd ["_law_script"] nD):
  PySem.W.WalkO q loose i c l.row.toRowW d [] (λf r=>PySem.call f r):=
 L2.Q3 (n:=63) (k:=26) (x:="_law_script") (CX:=λw=>aY l.prog w) (sp:=λ_=>nD) j (by decide) b ⟨rfl,by decide,by decide⟩ o F (λw H a ns _ t v=>JM (m w.params) t v) λw H s e s' z=>by
  obtain⟨_,_,_,_,_,z⟩:=z
  exact z
theorem LA{P:Program}{w:World}{K:Frag}{h:Heap}{mg:aq}{o j:Addr}{k b:Option Addr}{l:Array (Option Value)}{m c d g a i:Value}(X:K.In h)(G:h.Ns mainGlobals mg)(n:mg "law"=some (.ref o))
  (p:nsIn K mainGlobals "law"=some (some (.ref j)))(q:K.lookup j=some ⟨m,k,.func (fnOf "law" "law" (jW d7) (fP d7) (aJ d7) .none c d g b a i),l⟩)(r:codeIn K a "law"=true)(k3:keepIn K (.ref j)=true)
  (go:∀(base:Heap) {f:Addr} {fd:FuncData},jn K "law" "law" d7 f fd->fW P w K mg base (aY P w) 26 f fd yb nD):
  ∃fd:FuncData,(∀(s:Shared) (v:Value),BindsTo s fd ⟨[v],[]⟩ [("_law_script",v)])/\∀base:Heap,K.In base->base.Ns mainGlobals mg->fW P w K mg base (aY P w) 26 o fd ["_law_script"] nD:=by
 have e:=n.symm.trans (mg_of X G p)
 cases e
 exact⟨fnOf "law" "law" (jW d7) (fP d7) (aJ d7) .none c d g b a i,λs v=> .of_eq rfl,λbase _ _=>go base (wL q r k3)⟩
end My
end
open PySem PySem.W PyProof.Rows
set_option maxHeartbeats 0
namespace PySem.W.Fast
def tw861502493610598483:=()
def tw12108779175945528642:=()
def tw7774113678449685934:=()
def tw3115024155908430905:=()
def tw13744292231636272163:=()
def tw13142723645059500955:=()
def tw6602405832144512284:=()
def tw6297692896331399460:=()
def tw10894902600838542535:=()
def tw2585532686572414404:=()
def tw6170744672141170255:=()
def tw13547939009206843870:=()
def tw11907897558876765624:=()
def tw4849480874435393781:=()
def tw17744993626210230056:=()
def tw9176024353136599441:=()
def tw16670775579421159206:=()
def tw10910644110388302437:=()
def tw17590705303994421779:=()
def tw6548459193220583526:=()
def tw13913613514976480042:=()
def tw7867829370405329436:=()
def tw1864683662541468164:=()
def tw5072417060200589145:=()
def tw4323258101793500111:=()
def tw15254633091992210921:=()
def tw16636501806038632012:=()
def tw9977182230042388008:=()
def tw16248296213531012650:=()
def tw5362036446546632119:=()
def tw13053770412826190925:=()
def tw1205274952441263945:=()
def tw13757698761724263525:=()
def tw14226173905949225808:=()
def tw5344687154915797982:=()
def tw3919386906821981792:=()
def tw7164969610272591079:=()
def tw15401437161963490237:=()
def tw12887044766017154078:=()
def tw1000662321505670351:=()
def tw2455152089536381482:=()
def tw16298917771340976007:=()
def tw15621415185263527259:=()
def tw726351398001015727:=()
def tw2570914705882880060:=()
def tw6229817132586351632:=()
def tw15173544498738437827:=()
def tw6148498323302512570:=()
def tw3270257207059953099:=()
def tw9784134513789038367:=()
def tw5832305185047221409:=()
def tw16756451883985382160:=()
def tw4635989785427082552:=()
def tw12917704675397863716:=()
def tw16919654943277366748:=()
def tw2144661209622563809:=()
def tw2080317491765294665:=()
def tw6427576097997697322:=()
def tw17292613610259460706:=()
def tw15685335758407661847:=()
def tw6968137755033780318:=()
def tw2261719852989239553:=()
def tw14664691819916384248:=()
def tw16108870410212019532:=()
def tw8733291241859026926:=()
def tw10698057553749749337:=()
def tw13812277999558781770:=()
def tw6105849179199505303:=()
def tw5217270863462422736:=()
def tw13034982811429478159:=()
def tw16615150188913437886:=()
def tw8080008513338510535:=()
def tw14689541978594310382:=()
def tw1972164579936704799:=()
def tw10295913840692754127:=()
def tw4171853373547519906:=()
def tw3042748168174471775:=()
def tw10519837036962490867:=()
def tw4480162626587320490:=()
def tw1532491051758110099:=()
def tw17351735930882485243:=()
def tw10876078143196172821:=()
def tw3681537716864247207:=()
def tw8157277791214410489:=()
def tw11384182702204212275:=()
def tw3382625519597670723:=()
def tw28018229315631829:=()
def tw15042883488752021643:=()
def tw2107523057676978006:=()
def tw5101696844757716304:=()
def tw12459912946257978736:=()
def tw4039707410889071942:=()
def tw10042083083395451092:=()
def tw9402243437249704421:=()
def tw11823594873375168262:=()
def tw896239598344801917:=()
def tw8047209995159408440:=()
def tw1840220198017710270:=()
def tw13622603851894308203:=()
def tw2135409205425526673:=()
def tw8285278889055680438:=()
def tw17214186515701724070:=()
def tw3419001889969749887:=()
def tw14842496431369740429:=()
def tw2483420100392427323:=()
def tw14243238205550065757:=()
def tw10624116801336726872:=()
def tw3300257896294614128:=()
def tw2789304352393801511:=()
def tw2646887283097553488:=()
def tw14424681132571578402:=()
def tw16864618592142003386:=()
def tw3239113980409921550:=()
def tw3543459598558145280:=()
def tw11564986514327137767:=()
def tw5537553045615171315:=()
def tw11962351593759143498:=()
def tw7480016910919988345:=()
def tw10510056951384868246:=()
def tw1979317910248211280:=()
def tw8997383693586321770:=()
def tw6858818405166986180:=()
def tw12772213712371865176:=()
def tw6469784823511061222:=()
def tw4075453323654395381:=()
def tw2827255003249426055:=()
def tw5667099127317398114:=()
def tw2403389108928632939:=()
def tw4953865588907285216:=()
def tw447263597446747957:=()
end PySem.W.Fast
open L2 DP MA My
open_top hd for PySem.Challenge.rw_hangstill_k08_whole_rings
theorem PySem.Challenge.cw_hangstill_k08_whole_rings_holds : PySem.Challenge.rw_hangstill_k08_whole_rings.Holds := by
 refine hd ?_;k_fill;refine My.walk (l:=PySem.Challenge.rw_hangstill_k08_whole_rings) rfl rfl ?K (λw h Y=>PySem.W.kIn_of Y) ?F;case K=>exact λp=>(Eq.refl true:true=true)
 case F=>
  intro w mg fa h KX G hmg;refine' My.LA KX G hmg ?aL ?lL ?cL ?kL ?JV;(case aL=>k_is);(case lL=>k_is);(case cL=>k_is);(case kL=>k_is);case JV=>
   intro base f fd T;have LW:mg "NoMobile"=some _:=eX KX G;have LV:mg "NoHall"=some _:=eX KX G;have Gm:=Jp (P:=PySem.Challenge.rw_hangstill_k08_whole_rings.prog) (w:=w) (base:=base) (tD KX G) (bN KX G) (bN KX G) (bN KX G);have Gi:=Jo (P:=PySem.Challenge.rw_hangstill_k08_whole_rings.prog) (w:=w) (base:=base) (tD KX G) (bN KX G) (bN KX G) (bN KX G) (bN KX G) (eX KX G);have Gd:=Jk (tD KX G) (bN KX G) (bN KX G) (bN KX G) (bN KX G) (eX KX G) Gi Gm 6;have zm:=Jm (tD KX G) (eX KX G) Gd;have F3:=I9 (tD KX G) LW (by k_exc) zm;have F7:=Je (P:=PySem.Challenge.rw_hangstill_k08_whole_rings.prog) (w:=w) (base:=base) (tD KX G);have zq:=JD (tD KX G) F7;have zp:=Jz (tD KX G) zq;have Gq:=JB (tD KX G) zq;have Gy:=JI (tD KX G) zp 6;have zu:=JH (tD KX G) F3 Gy;have FY:=IY (tD KX G) zu;have Gj:=Jv (tD KX G) (bN KX G) zu;have Gz:=JJ (P:=PySem.Challenge.rw_hangstill_k08_whole_rings.prog) (w:=w) (base:=base) (tD KX G) (bN KX G);have Gp:=JA (tD KX G) (bN KX G) Gz;have F9:=Jf (tD KX G) Gp;have FZ:=I0 (P:=PySem.Challenge.rw_hangstill_k08_whole_rings.prog) (w:=w) (base:=base) (tD KX G) (bN KX G);have zk:=Jb (tD KX G) zp Gq;have F4:=Ja (P:=PySem.Challenge.rw_hangstill_k08_whole_rings.prog) (w:=w) (base:=base) (tD KX G) (bN KX G) (bN KX G);have Gw:=JF (tD KX G) F9 F4 FZ zk;have F2:=I_ (tD KX G) (bN KX G) (bN KX G) (bN KX G) (eX KX G) LV (by k_exc) zm FY;have zl:=Jh (tD KX G) F2 Gj;have Gv:=JE (tD KX G) zl Gw;have Gk:=Jw (P:=PySem.Challenge.rw_hangstill_k08_whole_rings.prog) (w:=w) (base:=base) (tD KX G) (bN KX G) (bN KX G) (bN KX G);have Gf:=Jq (tD KX G) (bN KX G) (bN KX G) (bN KX G) (bN KX G) Gk;have Gb:=Jj (P:=PySem.Challenge.rw_hangstill_k08_whole_rings.prog) (w:=w) (base:=base) (tD KX G) (bN KX G) (bN KX G) (bN KX G);have Ge:=Jl (tD KX G) (bN KX G) (bN KX G) (bN KX G) zl Gf Gb zk;have F1:=I8 (P:=PySem.Challenge.rw_hangstill_k08_whole_rings.prog) (w:=w) (base:=base) (tD KX G) (bN KX G);have Gh:=Ju (tD KX G) F1;have qE:=Jc (tD KX G) (bN KX G) Gh;have u9:=Jy (tD KX G) (bN KX G) qE;have Gg:=Jt (P:=PySem.Challenge.rw_hangstill_k08_whole_rings.prog) (w:=w) (base:=base) (tD KX G) 8;have Gn:=Jx (tD KX G) (bN KX G) (bN KX G) qE u9 3;have F_:=Jg (tD KX G) (bN KX G) (bN KX G) (bN KX G) qE u9 Gn;have qF:=Js (P:=PySem.Challenge.rw_hangstill_k08_whole_rings.prog) (w:=w) (base:=base) (tD KX G);have Gx:=JG (tD KX G) qF 3;have qD:=IZ (tD KX G) (bN KX G) (bN KX G) (bN KX G) Gg Gx;have Ga:=Ji (tD KX G) (bN KX G) (bN KX G) qD qF;have Gu:=JC (tD KX G) qF;have FW:=IX (tD KX G) (bN KX G) (bN KX G) qD Ga Gu;have F5:=Jd (tD KX G) qD qF;exact(Jr T (bN KX G) (bN KX G) (bN KX G) (bN KX G) (bN KX G) (bN KX G) (bN KX G) qE u9 F_ Gv qD Ge F5 FW).imp λvs H Q E h=>PL h
